/-
  Layer agg: the least and the greatest do not hang on the order; states joined; a state as bytes.
-/
import Derived.Test.YtljelocomjbanaaQPaback4
import Derived.Laws.BitsAllLaws
import Derived.Outline
import Derived.Test.YtljelocomjbanaaQPaback1
import Derived.Deep.DeepCutAuto
import Derived.Deep.MidRow
import Derived.Test.YtljelocomjbanaaQPaback2
set_option linter.unusedSimpArgs false
set_option linter.unusedVariables false
set_option maxRecDepth 8000
namespace Go.Proofs.Ytljelocomjbanaa
open Go.RowKit Go.WideShapes Col Sm

/-- The least of some numbers. -/
structure IsLo (l : List Nat) (c : Nat) : Prop where
  can : Fl.canon c = c
  mem : ∃ x ∈ l, c = Fl.canon x
  le : ∀ x ∈ l, Fl.rank c ≤ Fl.rank x
theorem IsLo.unique {l m : List Nat} {c d : Nat} (hl : ∀ x ∈ l, x < 18446744073709551616) (hm : ∀ x ∈ m, x < 18446744073709551616) (h : ∀ x, x ∈ l ↔ x ∈ m) (h1 : IsLo l c) (h2 : IsLo m d) : c = d := by
  obtain ⟨x, hx, ex⟩ := h1.mem
  obtain ⟨y, hy, ey⟩ := h2.mem
  have a1 := h1.le y ((h y).2 hy)
  have a2 := h2.le x ((h x).1 hx)
  have e1 : Fl.rank c = Fl.rank x := by rw [ex, Fl.rank_canon]
  have e2 : Fl.rank d = Fl.rank y := by rw [ey, Fl.rank_canon]
  have hr : Fl.rank x = Fl.rank y := by omega
  rw [ex, ey]
  exact (Fl.rank_inj x y (hl x hx) (hm y hy)).1 hr
theorem IsLo.join {l m : List Nat} {c d : Nat} (h1 : IsLo l c) (h2 : IsLo m d) : IsLo (l ++ m) (minC c d) := by
  have e : minC c d = if Fl.rank d < Fl.rank c then d else c := by
    rw [minC_eq, h1.can, h2.can]
    unfold Fl.minv
    split
    · rw [Fl.canon_canon, h2.can]
    · rw [Fl.canon_canon, h1.can]
  rw [e]
  by_cases h : Fl.rank d < Fl.rank c
  · rw [if_pos h]
    obtain ⟨y, hy, ey⟩ := h2.mem
    refine ⟨h2.can, ⟨y, by simp [hy], ey⟩, fun x hx => ?_⟩
    rcases List.mem_append.1 hx with hx | hx
    · have := h1.le x hx; omega
    · exact h2.le x hx
  · rw [if_neg h]
    obtain ⟨y, hy, ey⟩ := h1.mem
    refine ⟨h1.can, ⟨y, by simp [hy], ey⟩, fun x hx => ?_⟩
    rcases List.mem_append.1 hx with hx | hx
    · exact h1.le x hx
    · have := h2.le x hx; omega
theorem IsLo.one (b : Nat) : IsLo [b] (Fl.canon b) := ⟨Fl.canon_canon b, ⟨b, by simp, rfl⟩, fun x hx => by
  have : x = b := by simpa using hx
  subst this; rw [Fl.rank_canon]; exact Nat.le_refl _⟩
theorem accLo_is (l : List Nat) (h : l ≠ []) : IsLo l (accLo l) := by
  revert h
  refine list_snoc (p := fun l => l ≠ [] → IsLo l (accLo l)) (fun h => absurd rfl h) (fun l b ih _ => ?_) l
  by_cases h : l = []
  · subst h; rw [List.nil_append, accLo_one]; exact IsLo.one b
  · rw [accLo_snoc l b h, ← minC_canon]; exact (ih h).join (IsLo.one b)
theorem accLo_append (l m : List Nat) (hl : l ≠ []) (hm : m ≠ []) (h : ∀ x ∈ l ++ m, x < 18446744073709551616) : accLo (l ++ m) = minC (accLo l) (accLo m) :=
  IsLo.unique h h (fun _ => Iff.rfl) (accLo_is _ (by simp [hl])) ((accLo_is l hl).join (accLo_is m hm))
theorem accLo_nil : accLo [] = 0 := by unfold accLo; rfl
theorem accLo_perm {l m : List Nat} (hp : List.Perm l m) (h : ∀ x ∈ l, x < 18446744073709551616) : accLo l = accLo m := by
  by_cases e : l = []
  · subst e; rw [List.nil_perm.1 hp]
  · exact IsLo.unique h (fun x hx => h x (hp.mem_iff.2 hx)) (fun x => hp.mem_iff) (accLo_is l e) (accLo_is m (fun e2 => e (by subst e2; exact List.perm_nil.1 hp)))

/-- The greatest of some numbers. -/
structure IsHi (l : List Nat) (c : Nat) : Prop where
  can : Fl.canon c = c
  mem : ∃ x ∈ l, c = Fl.canon x
  le : ∀ x ∈ l, Fl.rank x ≤ Fl.rank c
theorem IsHi.unique {l m : List Nat} {c d : Nat} (hl : ∀ x ∈ l, x < 18446744073709551616) (hm : ∀ x ∈ m, x < 18446744073709551616) (h : ∀ x, x ∈ l ↔ x ∈ m) (h1 : IsHi l c) (h2 : IsHi m d) : c = d := by
  obtain ⟨x, hx, ex⟩ := h1.mem
  obtain ⟨y, hy, ey⟩ := h2.mem
  have a1 := h1.le y ((h y).2 hy)
  have a2 := h2.le x ((h x).1 hx)
  have e1 : Fl.rank c = Fl.rank x := by rw [ex, Fl.rank_canon]
  have e2 : Fl.rank d = Fl.rank y := by rw [ey, Fl.rank_canon]
  have hr : Fl.rank x = Fl.rank y := by omega
  rw [ex, ey]
  exact (Fl.rank_inj x y (hl x hx) (hm y hy)).1 hr
theorem IsHi.join {l m : List Nat} {c d : Nat} (h1 : IsHi l c) (h2 : IsHi m d) : IsHi (l ++ m) (maxC c d) := by
  have e : maxC c d = if Fl.rank c < Fl.rank d then d else c := by
    rw [maxC_eq, h1.can, h2.can]
    unfold Fl.maxv
    split
    · rw [Fl.canon_canon, h2.can]
    · rw [Fl.canon_canon, h1.can]
  rw [e]
  by_cases h : Fl.rank c < Fl.rank d
  · rw [if_pos h]
    obtain ⟨y, hy, ey⟩ := h2.mem
    refine ⟨h2.can, ⟨y, by simp [hy], ey⟩, fun x hx => ?_⟩
    rcases List.mem_append.1 hx with hx | hx
    · have := h1.le x hx; omega
    · exact h2.le x hx
  · rw [if_neg h]
    obtain ⟨y, hy, ey⟩ := h1.mem
    refine ⟨h1.can, ⟨y, by simp [hy], ey⟩, fun x hx => ?_⟩
    rcases List.mem_append.1 hx with hx | hx
    · exact h1.le x hx
    · have := h2.le x hx; omega
theorem IsHi.one (b : Nat) : IsHi [b] (Fl.canon b) := ⟨Fl.canon_canon b, ⟨b, by simp, rfl⟩, fun x hx => by
  have : x = b := by simpa using hx
  subst this; rw [Fl.rank_canon]; exact Nat.le_refl _⟩
theorem accHi_is (l : List Nat) (h : l ≠ []) : IsHi l (accHi l) := by
  revert h
  refine list_snoc (p := fun l => l ≠ [] → IsHi l (accHi l)) (fun h => absurd rfl h) (fun l b ih _ => ?_) l
  by_cases h : l = []
  · subst h; rw [List.nil_append, accHi_one]; exact IsHi.one b
  · rw [accHi_snoc l b h, ← maxC_canon]; exact (ih h).join (IsHi.one b)
theorem accHi_append (l m : List Nat) (hl : l ≠ []) (hm : m ≠ []) (h : ∀ x ∈ l ++ m, x < 18446744073709551616) : accHi (l ++ m) = maxC (accHi l) (accHi m) :=
  IsHi.unique h h (fun _ => Iff.rfl) (accHi_is _ (by simp [hl])) ((accHi_is l hl).join (accHi_is m hm))
theorem accHi_nil : accHi [] = 0 := by unfold accHi; rfl
theorem accHi_perm {l m : List Nat} (hp : List.Perm l m) (h : ∀ x ∈ l, x < 18446744073709551616) : accHi l = accHi m := by
  by_cases e : l = []
  · subst e; rw [List.nil_perm.1 hp]
  · exact IsHi.unique h (fun x hx => h x (hp.mem_iff.2 hx)) (fun x => hp.mem_iff) (accHi_is l e) (accHi_is m (fun e2 => e (by subst e2; exact List.perm_nil.1 hp)))

theorem joinTL (l m : List Nat) (hl : ∀ x ∈ l, x < 18446744073709551616) (hm : ∀ x ∈ m, x < 18446744073709551616) (hn : l.length + m.length < 1099511627776) (w : World) :
    Calls Try.prog 69 #[.agg (TL l), .agg (TL m)] w fun e w' => e = .returned (.agg (TL (l ++ m))) ∧ Below w.heap.size w w' := by
  have ha := anyH_acc l
  have hb := anyH_acc m
  unfold anyH at ha hb
  by_cases el : l = []
  · subst el
    refine (joinS_l _ _ _ _ _ _ _ _ _ _ ha w).mono ?_
    rintro e w' ⟨he, hbl⟩
    exact ⟨he, hbl⟩
  · have ht : (!l.isEmpty) = true := by cases l <;> simp_all
    rw [ht] at ha
    by_cases em : m = []
    · subst em
      refine (joinS_r _ _ _ _ _ _ _ _ _ _ ha hb w).mono ?_
      rintro e w' ⟨he, hbl⟩
      exact ⟨he.trans (by rw [List.append_nil]), hbl⟩
    · have ht2 : (!m.isEmpty) = true := by cases m <;> simp_all
      rw [ht2] at hb
      refine (joinS_b _ _ _ _ _ _ _ _ _ _ (by omega) (accLo_lt l hl) (accLo_lt m hm) (accHi_lt l hl) (accHi_lt m hm) (acc256 l) (acc256 m) ha hb w).mono ?_
      rintro e w' ⟨he, hbl⟩
      refine ⟨he.trans ?_, hbl⟩
      have hlm : ∀ x ∈ l ++ m, x < 18446744073709551616 := fun x hx => by
        rcases List.mem_append.1 hx with h | h
        · exact hl x h
        · exact hm x h
      unfold TL
      rw [List.length_append, accN_append, accH_append, accLo_append l m el em hlm, accHi_append l m el em hlm]
/-- A sum's bytes; a state's bytes. -/
def sby (N h : Nat) : List Nat := h :: strip (fl280 N 280) 280
theorem strip_len (l : List Nat) : ∀ m, (strip l m).length ≤ m
  | 0 => by unfold strip; simp
  | k + 1 => by
    unfold strip
    split
    · exact Nat.le_succ_of_le (strip_len l k)
    · exact List.length_take_le _ _
theorem sby_len (N h : Nat) : (sby N h).length ≤ 281 := by unfold sby; rw [List.length_cons]; have := strip_len (fl280 N 280) 280; omega
def stBy (n N h lo hi : Nat) : List Nat := ub n ++ (txL (sby N h) ++ (ub lo ++ ub hi))
theorem StAt.belowB {B g n h lo hi : Nat} {f : Nat → Nat} {w w' : World} (H : StAt w g n f h lo hi) (hb : Below B w w') (hg : g < B) : StAt w' g n f h lo hi := (hb.block g hg).trans H

set_option maxHeartbeats 4000000 in
theorem layS_any (n N h lo hi : Nat) (hn : n < 18446744073709551616) (hh : h < 256) (hlo : lo < 18446744073709551616) (hhi : hi < 18446744073709551616) (w : World) :
    Calls Try.prog 21 #[.slice none 0 0, .agg (T39 n (wd N) h lo hi)] w (Puts w.heap.size w (stBy n N h lo hi)) := by
  have q0 := Lib.hid (ub10 hn); have q2 := Lib.hid (ub10 hlo)
  obtain ⟨w0, hw0⟩ : ∃ w0, w0 = w.alloc (.cells (T39 n (wd N) h lo hi) 29) := ⟨_, rfl⟩
  have HB0 : Hid (Below w.heap.size w w0) := Lib.hid (by rw [hw0]; exact (Below.refl _ _).alloc (Nat.le_refl _) _)
  have HT : Hid (StAt w0 w.heap.size n (wd N) h lo hi) := Lib.hid (by rw [hw0]; exact heap_alloc_new' w _)
  have HSZ : Hid (w0.heap.size = w.heap.size + 1) := Lib.hid (by rw [hw0]; simp)
  have HTB : Hid (∀ w', Below w0.heap.size w0 w' → StAt w' w.heap.size n (wd N) h lo hi) := Lib.hid fun w' hk => HT.out.belowB hk (by have := HSZ.out; omega)
  have HZ := Lib.hid hw0
  have c0 : (w.alloc (.cells (T39 n (wd N) h lo hi) 29)).cell? ⟨w.heap.size, 0, none⟩ = some (.int .u64 (n : Int)) := StAt.c0 (g := w.heap.size) (n := n) (f := wd N) (h := h) (lo := lo) (hi := hi) (heap_alloc_new' w _)
  have HSB : Hid (∀ w, Calls Try.prog 57 #[.agg (P36 (wd N) h)] w fun e w' => ∃ A m c, e = .returned (.slice A m c) ∧ OwnS w' w.heap.size A m c (sby N h) ∧ Below w.heap.size w w') := Lib.hid fun w => (sumBytes_any N h hh w).mono fun e w' ⟨A, c, he, ho, hb⟩ => ⟨A, _, c, he, ho, hb⟩
  have HL1 := Lib.hid (sby_len N h)
  clear hw0
  go_enter Try.func21, Try.ntmps21
  go_wp2_with fail
  rw [← HZ.out]
  refine (putU_any w0.heap.size none 0 0 [] n hn w0 (OwnS.nil _ _) (by decide) (Nat.le_refl _)).mono ?_
  rintro e w1 hp
  obtain ⟨A1, n1, c1, rfl, HO1, HB1, hn1⟩ := hp.at
  have hn1' : n1 ≤ 10 := by have := q0.out; rw [hn1]; simpa using this
  clear hp hn1 c0
  have hb1 : w0.heap.size ≤ w1.heap.size := HB1.out.size
  have HS1 := Lib.hid (HTB.out w1 HB1.out)
  go_wp2_with (first
    | (refine wpList_load_sum rfl (.tmp 10) rfl w.heap.size rfl n (wd N) h lo hi HS1.out ?_)
    | (go_at_call 57; (with_reducible refine (HSB.out _).mono ?_); rintro e w2 ⟨A2, m2, c2, rfl, ho2, hb2⟩; have hcv := conv_by m2 c2 ho2.byAt ho2.len; have HW2 : Hid (WfT (sby N h)) := Lib.hid ho2.2; have HB2 := Lib.hid (below_to HB1.out hb2); have HO2 := Lib.hid (HO1.out.keep hb2); clear ho2 hb2))
  refine (putT_any w0.heap.size A1 n1 c1 ([] ++ ub n) (sby N h) HW2.out (by have := HL1.out; omega) w2 HO2 (by omega) HB2.out.size).mono ?_
  rintro e w3 hp
  obtain ⟨A3, n3, c3, rfl, HO3, hb3, hn3⟩ := hp.at
  have HB3 := Lib.hid (HB2.out.trans hb3.out)
  have hn3' : n3 ≤ 310 := by
    have h1 := q0.out
    have h2 := HL1.out
    have h3 := ub10 (n := (sby N h).length) (by omega)
    rw [hn3]; unfold txL; simp only [List.length_append, List.length_nil]; omega
  clear hp hn3 hb3 hcv
  have c2 := (HTB.out w3 HB3.out).c2
  go_wp2_with fail
  refine (putU_any w0.heap.size A3 n3 c3 (([] ++ ub n) ++ txL (sby N h)) lo hlo w3 HO3 (by omega) HB3.out.size).mono ?_
  rintro e w4 hp
  obtain ⟨A4, n4, c4, rfl, HO4, hb4, hn4⟩ := hp.at
  have HB4 := Lib.hid (HB3.out.trans hb4.out)
  have hn4' : n4 ≤ 320 := by
    have h1 := q0.out
    have h2 := HL1.out
    have h3 := ub10 (n := (sby N h).length) (by omega)
    have h4 := q2.out
    rw [hn4]; unfold txL; simp only [List.length_append, List.length_nil]; omega
  clear hp hn4 hb4 c2
  have c3' := (HTB.out w4 HB4.out).c3
  go_wp2_with fail
  refine (putU_any w0.heap.size A4 n4 c4 ((([] ++ ub n) ++ txL (sby N h)) ++ ub lo) hi hhi w4 HO4 (by omega) HB4.out.size).mono ?_
  rintro e w5 hp
  obtain ⟨A5, n5, c5, rfl, HO5, hb5, hn5⟩ := hp.at
  have HB5 := Lib.hid (HB4.out.trans hb5.out)
  clear hp hn5 hb5
  go_wp2
  go_ret
  have he : ((([] ++ ub n) ++ txL (sby N h)) ++ ub lo) ++ ub hi = stBy n N h lo hi := by unfold stBy; simp [List.append_assoc]
  rw [he] at HO5
  exact ⟨A5, n5, c5, rfl, HO5.out.more HB0.out.size, HB0.out.trans (HB5.out.mono HB0.out.size), Nat.le_trans HB0.out.size HB5.out.size⟩
end Go.Proofs.Ytljelocomjbanaa

set_option linter.unusedSimpArgs false
set_option linter.unusedVariables false
set_option maxRecDepth 8000
namespace Go.Proofs.Ytljelocomjbanaa
open Go.RowKit Sm

theorem results_cell_tmp {P : Program} {fn : Func} {p q : Tmp} {ty : TypeId} (h : fn.results = #[.cell p ty, .tmp q]) (tmps : Array Value) (w : World) (g : Nat) (t : TypeId) (cs : Array Value) (fr : Nat × Nat) (d : TypeDesc)
    (hp : tmps.getD p undef = .pointer (some ⟨g, 0, none⟩)) (hg : w.heap[g]? = some (.cells cs t fr))
    (hu : P.underlying ty = some d) (hr : (match d with | .struct _ | .array _ _ => true | _ => false) = true) (hi : (P.info? ty).map (·.size) = some cs.size) :
    (results fn tmps).run P w = .ok (.tuple #[.agg cs, tmps.getD q undef]) w := by
  have hp' : tmps[p]?.getD undef = .pointer (some ⟨g, 0, none⟩) := by simpa using hp
  simp [results, h, hp', asAddr, run_loadVar_row w g t ty cs fr d hg hu hr hi]
theorem post_row2 {P : Program} {fn : Func} {R : Ending → World → Prop} {a : Act} {w : World} (p q : Tmp) (ty : TypeId) (h : fn.results = #[.cell p ty, .tmp q]) (hd : a.defers = []) (g : Nat) (t : TypeId) (cs : Array Value) (fr : Nat × Nat) (d : TypeDesc)
    (hp : a.tmps.getD p undef = .pointer (some ⟨g, 0, none⟩)) (hg : w.heap[g]? = some (.cells cs t fr))
    (hu : P.underlying ty = some d) (hr : (match d with | .struct _ | .array _ _ => true | _ => false) = true) (hi : (P.info? ty).map (·.size) = some cs.size)
    (hR : R (.returned (.tuple #[.agg cs, a.tmps.getD q undef])) w) : bodyPost P fn R .ret a w := ⟨hd, _, results_cell_tmp h a.tmps w g t cs fr d hp hg hu hr hi, hR⟩
theorem built36e : Try.prog.built 27 [] = some #[Value.int .u64 0, .int .u64 0, .int .u64 0, .int .u64 0, .int .u64 0, .int .u64 0, .int .u64 0, .int .u64 0, .int .u64 0, .int .u64 0, .int .u64 0, .int .u64 0, .int .u64 0, .int .u64 0, .int .u64 0, .int .u64 0, .int .u64 0, .int .u64 0, .int .u64 0, .int .u64 0, .int .u64 0, .int .u64 0, .int .u64 0, .int .u64 0, .int .u64 0, .int .u64 0, .int .u64 0, .int .u64 0, .int .u64 0, .int .u64 0, .int .u64 0, .int .u64 0, .int .u64 0, .int .u64 0, .int .u64 0, .int .u8 0] := by kernel_rfl
theorem wpList_build36e {ops : Array Oper} {rest : List Oper} {o : Oper} {a : Act} {w : World} {Q : Exit → Act → World → Prop} (hgd : o.guard = none) (ho : o.op = .build 27 #[])
    (h : wpList Try.prog ops Q rest (a.put o.dst (.agg (P36 (fun _ => 0) 0))) w) : wpList Try.prog ops Q (o :: rest) a w := by
  have e : (#[] : Array (Nat × Operand)).map (fun (i, x) => (i, a.eval x)) = #[] := by simp
  refine wpList_build hgd _ _ ho ?_ ?_
  · rw [e]
    show (Try.prog.built 27 []).isSome = true
    rw [built36e]; rfl
  · rw [e]
    show wpList _ _ _ _ (a.put o.dst (.agg ((Try.prog.built 27 []).getD #[]))) w
    rw [built36e, Option.getD_some, zeros36]
    exact h

/-- What a reading that is refused returns. -/
def RetX (w : World) (e : Ending) (w' : World) : Prop := e = .returned (.tuple #[.agg (P36 (fun _ => 0) 0), .int .i64 3]) ∧ Below w.heap.size w w'

set_option maxHeartbeats 2000000 in
theorem xread_size (a : Option Addr) (len cap : Nat) (hl : len = 0 ∨ 281 < len) (w : World) :
    Calls Try.prog 99 #[.slice a len cap] w (RetX w) := by
  have hk := Kp.start w (P36 (fun _ => 0) 0) 27
  by_cases h0 : len = 0
  all_goals
    (try subst h0)
    (try (have h1 : 281 < len := by omega))
    clear hl
    go_enter Try.func99, Try.ntmps99
    go_wp2_with (first | (refine wpList_build36e rfl rfl ?_) | (rw [zeros36]; refine wpList_store_row rfl 27 (.tmp 2) (.tmp 18) rfl w.heap.size (P36 (fun _ => 0) 0) rfl rfl _ _ hk.row (i36 _ _) rfl (one36 _ _) ?_; replace hk := hk.stored (Nat.le_refl _) (P36 (fun _ => 0) 0)))
    exact post_row2 2 3 27 Try.results99 rfl w.heap.size 27 _ (0, 0) _ rfl hk.row u27 rfl (i36 _ _) ⟨rfl, hk.below⟩

/-- The first byte, and the others. -/
structure Hd (w : World) (a : Option Addr) (len cap : Nat) (x : Nat) (r : List Nat) (g off : Nat) (A : Option Addr) (n C : Nat) : Prop where
  addr : a = some ⟨g, off, none⟩
  cell : w.cell? ⟨g, off, none⟩ = some (.int .u8 (x : Int))
  lt : g < w.heap.size
  run : ∀ w, (Instr.slice 39 (.slice a len cap) (some (.int .i64 1)) none none).run Try.prog w = .ok (.slice A n C) w
  rlen : Hid (n = r.length)
  rcap : n ≤ C
  byAt : Hid (ByAt w A r)
  xlt : x < 256
  all : Hid (len = 1 + n)
theorem hd_of (a : Option Addr) (x : Nat) (r : List Nat) (len cap : Nat) (hlen : Hid (len = (x :: r).length)) (hc : len ≤ cap) (w : World) (HA : Hid (ByAt w a (x :: r))) : ∃ g off A n C, Hd w a len cap x r g off A n C := by
  obtain ⟨hx, g, off, e, hg, hcell⟩ := HA.out 0 x rfl
  have h1 : 1 ≤ len := by rw [hlen.out, List.length_cons]; omega
  obtain ⟨A, C, r1, d1, d2, d3⟩ := cut_from a len cap 1 h1 hc
  have h := d3 w _ hlen.out HA.out
  exact ⟨g, off, A, len - 1, C, e, by rw [Nat.add_zero] at hcell; exact hcell, hg, r1, Lib.hid (by rw [hlen.out, List.length_cons]; omega), d1, Lib.hid (by simpa using h), hx, Lib.hid (by omega)⟩

set_option maxHeartbeats 2000000 in
theorem xread_bad (a : Option Addr) (len cap x : Nat) (r : List Nat) (g off : Nat) (A : Option Addr) (n C : Nat) (w : World) (H : Hid (Hd w a len cap x r g off A n C)) (hn : n ≤ 280)
    (hbad : spB r = true ∨ (spB r = false ∧ possB x ((n : Int) == 0) = false)) :
    Calls Try.prog 99 #[.slice a len cap] w (RetX w) := by
  have hk := Kp.start w (P36 (fun _ => 0) 0) 27
  have hadr := H.out.addr
  subst hadr
  have hlen := H.out.all.out
  subst hlen
  have c1 := H.out.run
  have hcell : (w.alloc (.cells (P36 (fun _ => 0) 0) 27)).cell? ⟨g, off, none⟩ = some (.int .u8 (x : Int)) := (World.cell?_alloc_lt w _ ⟨g, off, none⟩ H.out.lt).trans H.out.cell
  have HA : Hid (ByAt (w.alloc (.cells (P36 (fun _ => 0) 0) 27)) A r) := Lib.hid (H.out.byAt.out.keep ((Below.refl _ _).alloc (Nat.le_refl _) _))
  have HL := H.out.rlen
  have hC := H.out.rcap
  have hx := H.out.xlt
  have g0 : (0 : Int) < 1 + (n : Int) := by omega
  have g1 : (1 : Int) ≤ 1 + (n : Int) := by omega
  have t0 : ((1 : Int) + (n : Int) == 0) = false := by rw [beq_eq_false_iff_ne]; omega
  have t1 : ¬ (281 : Int) < 1 + (n : Int) := by omega
  rcases hbad with hs | ⟨hs, hp⟩
  all_goals
    have HS := Lib.hid hs
    clear hs
    go_enter Try.func99, Try.ntmps99
    go_wp2
    rw [zeros36]
    go_quiet (fail)
    have hk1 : Kp w w.heap.size (P36 (fun _ => 0) 0) 27 ((w.alloc (.cells (P36 (fun _ => 0) 0) 27)).drewN nq) := ⟨below_drewN hk.below nq, hk.row⟩
    clear hk
    go_wp2_with (first | (go_at_call 96; refine (spare_any A r n C HL (by omega) hC _ (drewN_by HA nq)).mono ?_; rw [HS.out]; rintro e w2 ⟨rfl, hb⟩; replace hk1 := hk1.next hb; clear hb) | (go_at_call 124; refine (possible_any x _ hx _).mono ?_; rintro e w3 ⟨rfl, rfl⟩) | (refine wpList_build36e rfl rfl ?_) | (refine wpList_store_row rfl 27 (.tmp 2) (.tmp 34) rfl w.heap.size (P36 (fun _ => 0) 0) rfl rfl _ _ hk1.row (i36 _ _) rfl (one36 _ _) ?_; replace hk1 := hk1.stored (Nat.le_refl _) (P36 (fun _ => 0) 0)))
    exact post_row2 2 3 27 Try.results99 rfl w.heap.size 27 _ (0, 0) _ rfl hk1.row u27 rfl (i36 _ _) ⟨rfl, hk1.below⟩
end Go.Proofs.Ytljelocomjbanaa

set_option linter.unusedSimpArgs false
set_option linter.unusedVariables false
set_option maxRecDepth 8000
namespace Go.Proofs.Ytljelocomjbanaa
open Go.RowKit Sm

/-- The bytes, and their sign behind them up to a place. -/
def xt (r : List Nat) (i : Nat) : List Nat := (List.range 280).map fun j => if j < r.length then r.getD j 0 else if j < i then sgB r else 0
theorem xt_len (r : List Nat) (i : Nat) : (xt r i).length = 280 := by unfold xt; simp
theorem xt_get (r : List Nat) (i j : Nat) (hj : j < 280) : (xt r i)[j]? = some (if j < r.length then r.getD j 0 else if j < i then sgB r else 0) := by
  unfold xt
  rw [List.getElem?_map, List.getElem?_range hj]; rfl
theorem xt_set (r : List Nat) (i : Nat) (h : r.length ≤ i) (hi : i < 280) : (xt r i).set i (sgB r) = xt r (i + 1) := by
  apply List.ext_getElem?
  intro j
  rw [List.getElem?_set, xt_len]
  by_cases hj : j < 280
  · rw [xt_get r i j hj, xt_get r (i + 1) j hj]
    by_cases e : i = j
    · subst e
      rw [if_pos rfl, if_pos hi, if_neg (by omega), if_pos (by omega)]
    · rw [if_neg e]
      by_cases h1 : j < r.length
      · rw [if_pos h1, if_pos h1]
      · rw [if_neg h1, if_neg h1]
        by_cases h2 : j < i
        · rw [if_pos h2, if_pos (by omega)]
        · rw [if_neg h2, if_neg (by omega)]
  · rw [List.getElem?_eq_none (by rw [xt_len]; omega), List.getElem?_eq_none (by rw [xt_len]; omega)]
    rw [if_neg (by omega)]
theorem xt_lt (r : List Nat) (i : Nat) (hr : ∀ x ∈ r, x < 256) : ∀ x ∈ xt r i, x < 256 := fun x hx => by
  unfold xt at hx
  obtain ⟨j, -, rfl⟩ := List.mem_map.1 hx
  split
  · rename_i h
    rw [List.getD_eq_getElem?_getD, List.getElem?_eq_getElem h]
    exact hr _ (List.getElem_mem h)
  · split
    · exact sgB_lt r
    · decide
theorem xt_splice (r : List Nat) (k : Nat) (h : r.length ≤ 280) : splice (bys (fl280 k 0)) 0 (bys r) = bys (xt r r.length) := by
  unfold splice
  rw [List.take_zero, List.nil_append, Nat.zero_add, bys_length]
  unfold bys
  rw [← List.map_drop, ← List.map_append]
  congr 1
  apply List.ext_getElem?
  intro j
  by_cases hj : j < 280
  · rw [xt_get r _ j hj]
    by_cases h1 : j < r.length
    · rw [List.getElem?_append_left h1, if_pos h1, List.getD_eq_getElem?_getD, List.getElem?_eq_getElem h1]; rfl
    · rw [List.getElem?_append_right (by omega), if_neg h1, if_neg h1, List.getElem?_drop, show r.length + (j - r.length) = j by omega]
      unfold fl280
      rw [List.getElem?_map, List.getElem?_range hj]; rfl
  · rw [List.getElem?_eq_none (by rw [List.length_append, List.length_drop, fl280_len]; omega), List.getElem?_eq_none (by rw [xt_len]; omega)]

/-- Bytes as one number. -/
def vl : List Nat → Nat
  | [] => 0
  | b :: l => b + 256 * vl l
theorem vl_snoc : ∀ (l : List Nat) (b : Nat), vl (l ++ [b]) = vl l + 256 ^ l.length * b
  | [], b => by simp [vl]
  | x :: l, b => by
    show x + 256 * vl (l ++ [b]) = x + 256 * vl l + 256 ^ (l.length + 1) * b
    rw [vl_snoc l b, Nat.pow_succ, Nat.mul_comm (256 ^ l.length) 256, Nat.mul_assoc]; omega
theorem vl_lt : ∀ (l : List Nat), (∀ x ∈ l, x < 256) → vl l < 256 ^ l.length
  | [], _ => by simp [vl]
  | b :: l, h => by
    have h1 := h b (by simp)
    have h2 := vl_lt l (fun x hx => h x (by simp [hx]))
    show b + 256 * vl l < 256 ^ (l.length + 1)
    rw [Nat.pow_succ]; omega
/-! A byte more: its word, and the others. -/
theorem word_low (v k q b : Nat) (h : q < k / 8) : wd (v + 256 ^ k * b) q = wd v q := by
  unfold wd pw
  have e : 256 ^ k * b = 2 ^ (64 * q) * (2 ^ 64 * (2 ^ (8 * k - 64 * q - 64) * b)) := by
    rw [← Nat.mul_assoc, ← Nat.mul_assoc, ← Nat.pow_add, ← Nat.pow_add, show (256 : Nat) = 2 ^ 8 by decide, ← Nat.pow_mul]
    congr 2; omega
  rw [e, Nat.add_mul_div_left _ _ (Nat.two_pow_pos _)]
  exact Nat.add_mul_mod_self_left _ _ _
theorem word_high (v k q : Nat) (hv : v < 256 ^ k) (h : k ≤ 8 * q) : wd v q = 0 := by
  unfold wd pw
  have h1 : 256 ^ k ≤ 2 ^ (64 * q) := by
    rw [show (256 : Nat) = 2 ^ 8 by decide, ← Nat.pow_mul]
    exact Nat.pow_le_pow_right (by decide) (by omega)
  rw [Nat.div_eq_of_lt (by omega)]
theorem word_at (v k b : Nat) (hv : v < 256 ^ k) (hb : b < 256) : wd (v + 256 ^ k * b) (k / 8) = wd v (k / 8) ||| b * 2 ^ (k % 8 * 8) := by
  unfold wd pw
  have hr : k % 8 < 8 := Nat.mod_lt _ (by decide)
  have hk : k = 8 * (k / 8) + k % 8 := by omega
  generalize k / 8 = q at *
  generalize k % 8 = r at *
  subst hk
  have e1 : (256 : Nat) ^ (8 * q + r) = 2 ^ (64 * q) * 2 ^ (r * 8) := by
    rw [show (256 : Nat) = 2 ^ 8 by decide, ← Nat.pow_mul, ← Nat.pow_add]; congr 1; omega
  rw [e1] at hv ⊢
  have h1 : v / 2 ^ (64 * q) < 2 ^ (r * 8) := Nat.div_lt_of_lt_mul hv
  have h2 : 2 ^ (r * 8) ≤ 2 ^ 56 := Nat.pow_le_pow_right (by decide) (by omega)
  have h3 : b * 2 ^ (r * 8) ≤ 255 * 2 ^ 56 := Nat.mul_le_mul (by omega) h2
  rw [Nat.mul_assoc, Nat.add_mul_div_left _ _ (Nat.two_pow_pos _)]
  generalize v / 2 ^ (64 * q) = x at *
  rw [Nat.mod_eq_of_lt (by omega : x < 18446744073709551616), Nat.mul_comm (2 ^ (r * 8)) b]
  rw [Nat.or_comm, nat_join (r * 8) (b * 2 ^ (r * 8)) x (Nat.mul_mod_left _ _) h1]
  generalize 2 ^ (r * 8) = y at *
  rw [Nat.mod_eq_of_lt (by omega)]; omega
theorem vl_word (l : List Nat) (b q : Nat) (hl : ∀ x ∈ l, x < 256) (hb : b < 256) : wd (vl (l ++ [b])) q = if q = l.length / 8 then wd (vl l) q ||| b * 2 ^ (l.length % 8 * 8) else wd (vl l) q := by
  have hv := vl_lt l hl
  rw [vl_snoc]
  by_cases h : q = l.length / 8
  · rw [if_pos h, h]; exact word_at _ _ _ hv hb
  · rw [if_neg h]
    rcases Nat.lt_or_ge q (l.length / 8) with h1 | h1
    · exact word_low _ _ _ _ h1
    · have h2 : vl l + 256 ^ l.length * b < 256 ^ (l.length + 1) := by
        have h3 : 256 ^ l.length * b ≤ 256 ^ l.length * 255 := Nat.mul_le_mul_left _ (by omega)
        rw [Nat.pow_succ]; omega
      rw [word_high _ (l.length + 1) q h2 (by omega), word_high _ l.length q hv (by omega)]
theorem shl_lt (b k : Nat) (hb : b < 256) : b * 2 ^ (k % 8 * 8) < 18446744073709551616 := by
  have hk : k % 8 < 8 := Nat.mod_lt _ (by decide)
  have h1 : 2 ^ (k % 8 * 8) ≤ 2 ^ 56 := Nat.pow_le_pow_right (by decide) (by omega)
  have h2 : b * 2 ^ (k % 8 * 8) ≤ 255 * 2 ^ 56 := Nat.mul_le_mul (by omega) h1
  omega

/-- Behind some rounds of the first loop: the result's cells, and the bytes. -/
structure Xr (w0 : World) (g : Nat) (r : List Nat) (i : Nat) (w : World) : Prop where
  below : Below w0.heap.size w0 w
  row1 : w.heap[w0.heap.size]? = some (.cells (P36 (fun _ => 0) 0) 27 (0, 0))
  row2 : w.heap[g]? = some (.cells (bys (xt r i)).toArray 139 (0, 0))
  lt : w0.heap.size < g
theorem Xr.keep {w0 w w' : World} {g i : Nat} {r : List Nat} (H : Xr w0 g r i w) (hb : Below w.heap.size w w') : Xr w0 g r i w' :=
  ⟨H.below.trans (hb.mono H.below.size), (hb.block _ (Array.getElem?_eq_some_iff.1 H.row1).1).trans H.row1, (hb.block _ (Array.getElem?_eq_some_iff.1 H.row2).1).trans H.row2, H.lt⟩
theorem Xr.step {w0 w : World} {g i : Nat} {r : List Nat} (H : Xr w0 g r i w) (h : r.length ≤ i) (hi : i < 280) : Xr w0 g r (i + 1) (w.setCell ⟨g, i, none⟩ (.int .u8 (sgB r : Nat))) := by
  refine ⟨H.below.setCell (Nat.le_of_lt H.lt) _, (Below.heap_setCell _ _ _ _ (by have := H.lt; show _ ≠ g; omega)).trans H.row1, ?_, H.lt⟩
  rw [← xt_set r i h hi, bys_set]
  exact row_set H.row2 i _

/-- Behind some rounds of the second loop: the sum. -/
structure Xw (wo : World) (g : Nat) (E : List Nat) (x k : Nat) (w : World) : Prop where
  below : Below wo.heap.size wo w
  row : w.heap[g]? = some (.cells (P36 (wd (vl (E.take k))) x) 27 (0, 0))
theorem Xw.step {wo w : World} {g k x : Nat} {E : List Nat} (H : Xw wo g E x k w) (hk : k < 280) (hE : ∀ y ∈ E, y < 256) (hl : E.length = 280) (hg : wo.heap.size ≤ g := by exact Nat.le_refl _) :
    Xw wo g E x (k + 1) (w.setCell ⟨g, k / 8, none⟩ (.int .u64 ((wd (vl (E.take k)) (k / 8) ||| E[k] * 2 ^ (k % 8 * 8) : Nat) : Int))) := by
  refine ⟨H.below.setCell hg _, ?_⟩
  have h1 : (w.setCell ⟨g, k / 8, none⟩ (.int .u64 ((wd (vl (E.take k)) (k / 8) ||| E[k] * 2 ^ (k % 8 * 8) : Nat) : Int))).heap[g]? = some (.cells ((P36 (wd (vl (E.take k))) x).setIfInBounds (k / 8) (.int .u64 ((wd (vl (E.take k)) (k / 8) ||| E[k] * 2 ^ (k % 8 * 8) : Nat) : Int))) 27 (0, 0)) := by
    simp [World.setCell, Array.getElem?_modify, H.row]
  rw [h1, P36_set _ _ _ _ (by omega)]
  congr 2
  refine P36_congr x (A35_congr fun q _ => ?_)
  rw [List.take_succ_eq_append_getElem (by omega), vl_word _ _ _ (fun y hy => hE y (List.mem_of_mem_take hy)) (hE _ (List.getElem_mem _)), List.length_take, Nat.min_eq_left (by omega)]
  by_cases e : q = k / 8
  · rw [if_pos e, if_pos e, e]
  · rw [if_neg e, if_neg e]

theorem Xw.drew {wo w : World} {g k x : Nat} {E : List Nat} (H : Xw wo g E x k w) : Xw wo g E x k w.drew := ⟨H.below.drew, H.row⟩
theorem or_shlB (W b s : Nat) (hW : W < 18446744073709551616) (hs : b * 2 ^ s < 18446744073709551616) : bits .or .u64 (W : Int) (IntKind.u64.wrap ((b : Int) * 2 ^ s)) = ((W ||| b * 2 ^ s : Nat) : Int) := by
  rw [← bits_or_u64_nat W (b * 2 ^ s) hW hs]
  congr 1
  have e : (b : Int) * 2 ^ s = ((b * 2 ^ s : Nat) : Int) := by rw [Int.natCast_mul, Int.natCast_pow]; rfl
  rw [e]
  generalize b * 2 ^ s = v at *
  rw [IntKind.wrap_u64]
  omega
/-- What a reading that is not refused returns. -/
def RetY (w : World) (N x : Nat) (e : Ending) (w' : World) : Prop := e = .returned (.tuple #[.agg (P36 (wd N) x), .int .i64 0]) ∧ Below w.heap.size w w'

set_option maxHeartbeats 4000000 in
theorem xread_ok (a : Option Addr) (len cap x : Nat) (r : List Nat) (g off : Nat) (A : Option Addr) (n C : Nat) (w : World) (H : Hid (Hd w a len cap x r g off A n C)) (hn : n ≤ 280)
    (hs : Hid (spB r = false)) (hp : possB x ((n : Int) == 0) = true) :
    Calls Try.prog 99 #[.slice a len cap] w (RetY w (vl (xt r 280)) x) := by
  have hk := Kp.start w (P36 (fun _ => 0) 0) 27
  have hadr := H.out.addr
  subst hadr
  have hlen := H.out.all.out
  subst hlen
  have c1 := H.out.run
  have hcell : (w.alloc (.cells (P36 (fun _ => 0) 0) 27)).cell? ⟨g, off, none⟩ = some (.int .u8 (x : Int)) := (World.cell?_alloc_lt w _ ⟨g, off, none⟩ H.out.lt).trans H.out.cell
  have HA : Hid (ByAt (w.alloc (.cells (P36 (fun _ => 0) 0) 27)) A r) := Lib.hid (H.out.byAt.out.keep ((Below.refl _ _).alloc (Nat.le_refl _) _))
  have HL := H.out.rlen
  have hC := H.out.rcap
  have hx := H.out.xlt
  have g0 : (0 : Int) < 1 + (n : Int) := by omega
  have g1 : (1 : Int) ≤ 1 + (n : Int) := by omega
  have t0 : ((1 : Int) + (n : Int) == 0) = false := by rw [beq_eq_false_iff_ne]; omega
  have t1 : ¬ (281 : Int) < 1 + (n : Int) := by omega
  have hz := zero280 0
  go_enter Try.func99, Try.ntmps99
  go_wp2
  rw [zeros36]
  go_quiet (fail)
  have hk1 : Kp w w.heap.size (P36 (fun _ => 0) 0) 27 ((w.alloc (.cells (P36 (fun _ => 0) 0) 27)).drewN nq) := ⟨below_drewN hk.below nq, hk.row⟩
  clear hk hcell
  go_wp2_with (first | (go_at_call 96; refine (spare_any A r n C HL (by omega) hC _ (drewN_by HA nq)).mono ?_; rw [hs.out]; rintro e w2 ⟨rfl, hb⟩; replace hk1 := hk1.next hb; have HA2 := ByAt.at (drewN_by HA nq) hb; clear hb; have hgt : w.heap.size < w2.heap.size := (Array.getElem?_eq_some_iff.1 hk1.row).1) | (go_at_call 124; refine (possible_any x _ hx _).mono ?_; rintro e w3 ⟨rfl, rfl⟩) | (refine wpList_copy_splice rfl (.tmp 35) (.tmp 36) 39 39 rfl 5 Try.underlying39 sizeU8 (some ⟨w2.heap.size, 0, none⟩) A 280 280 n C rfl rfl w2.heap.size 0 (bys (fl280 0 0)) 139 (heap_alloc_new' w2 _) (bys r) ?q1 ?q2 ?q3 (bys_one _) w2.heap.size w2 ?q4 ?q5 ?_; (case q1 => exact (by rw [bys_length, ← HL.out]; exact (Nat.min_eq_left hn).symm)); (case q2 => exact fun h0 => copy_src rfl HA2 ((Below.refl _ _).alloc (Nat.le_refl _) _) h0); (case q3 => exact (by rw [bys_length, bys_length, fl280_len, ← HL.out]; omega)); (case q4 => exact (Below.refl _ _).alloc (Nat.le_refl _) _); (case q5 => exact Nat.le_refl _); intro w7 HR7 hb7; have HB7 := Lib.hid hb7; clear hb7))
  have HX0 : Hid (Xr w w2.heap.size r n w7) := Lib.hid ⟨hk1.below.trans (HB7.out.mono hk1.below.size), (HB7.out.block _ hgt).trans hk1.row, by have h := HR7.out; rwa [xt_splice r 0 (by rw [← HL.out]; exact hn), ← HL.out] at h, hgt⟩
  clear HR7 hz
  generalize w2.heap.size = g2 at *
  go_loopw [7] (fun i wr => ∃ k : Nat, n ≤ k ∧ k ≤ 280 ∧ i = .int .i64 k ∧ Xr w g2 r k wr) (fun i _ => 280 - (intOf i).toNat)
  case atStart => exact ⟨n, Nat.le_refl _, hn, by rw [bys_length, ← HL.out], HX0.out⟩
  case round =>
    obtain ⟨k, hnk, hk, rfl, hX⟩ := hrel
    have HX := Lib.hid hX
    clear hX
    have HAr := Lib.hid (H.out.byAt.out.keep HX.out.below)
    by_cases hlt : k < 280
    · have hl : k < (bys (xt r k)).length := by rw [bys_length, xt_len]; exact hlt
      have c2 := row_cell HX.out.row2 k hl
      have f2 := row_frozen HX.out.row2 k
      generalize (bys (xt r k))[k] = y at *
      clear hl
      set_option maxRecDepth 20000 in go_wp2_with (go_at_call 122; refine (signByte_any A r n C HL (by omega) _ HAr).mono ?_; rintro e w8 ⟨rfl, rfl⟩)
      go_roundw
      case rel => exact ⟨k + 1, by omega, by omega, by go_num, HX.out.step (by rw [← HL.out]; exact hnk) hlt⟩
      case measure => simp [intOf]; omega
    · have hk2 : k = 280 := by omega
      subst hk2
      obtain ⟨wo, hwo⟩ : ∃ wo : World, wo = wr := ⟨_, rfl⟩
      subst hwo
      rw [show ((280 : Nat) : Int) = (280 : Int) from rfl]
      go_wp2_with (first | (refine wpList_build36 rfl (.tmp 46) rfl x rfl ?_) | (rw [zeros36]; refine wpList_store_row rfl 27 (.tmp 8) (.tmp 47) rfl wo.heap.size (P36 (fun _ => 0) x) rfl rfl _ _ (heap_alloc_new _ _) (i36 _ _) (by rw [P36_size, P36_size]) (one36 _ _) ?_; rw [World.setRow_alloc_new]))
      have HY0 : Hid (Xw wo wo.heap.size (xt r 280) x 0 (wo.alloc (.cells (P36 (fun _ => 0) x) 27))) := Lib.hid ⟨(Below.refl _ _).alloc (Nat.le_refl _) _, by rw [heap_alloc_new']; congr 2; exact P36_congr x (A35_congr fun i _ => by unfold wd vl; simp)⟩
      go_loopw [48] (fun i wr => ∃ k : Nat, k ≤ 280 ∧ i = .int .i64 k ∧ Xw wo wo.heap.size (xt r 280) x k wr) (fun i _ => 280 - (intOf i).toNat)
      case atStart => exact ⟨0, by omega, rfl, HY0.out⟩
      case round =>
        obtain ⟨k, hk, rfl, hY⟩ := hrel
        have HY := Lib.hid hY
        clear hY
        by_cases hlt : k < 280
        · have hq8 : k / 8 < 35 := by omega
          have c1 : wr.cell? ⟨wo.heap.size, k / 8, none⟩ = some (.int .u64 (wd (vl ((xt r 280).take k)) (k / 8) : Nat)) := by
            rw [cell_of_row wr _ _ _ _ _ HY.out.row]; exact P36_word _ _ _ hq8
          have f1 := row_frozen HY.out.row (k / 8)
          have hkl : k < (xt r 280).length := by rw [xt_len]; exact hlt
          have c2 : wr.cell? ⟨g2, k, none⟩ = some (.int .u8 ((xt r 280)[k] : Nat)) := by
            rw [HY.out.below.cell (p := ⟨g2, k, none⟩) (Array.getElem?_eq_some_iff.1 HX.out.row2).1, cell_of_row wo g2 k _ _ _ HX.out.row2]
            unfold bys
            simp [hkl, bv]
          have hX := wd_lt (vl ((xt r 280).take k)) (k / 8)
          have hb := xt_lt r 280 H.out.byAt.out.lt _ (List.getElem_mem hkl)
          have HST := Lib.hid (HY.out.step hlt (xt_lt r 280 H.out.byAt.out.lt) (xt_len r 280))
          generalize wd (vl ((xt r 280).take k)) (k / 8) = W at *
          generalize (xt r 280)[k] = b at *
          have q0 : (0 : Int) ≤ (k : Int) / 8 := by omega
          have q1 : (k : Int) / 8 < 35 := by omega
          have q2 : ((k : Int) / 8).toNat = k / 8 := by omega
          have r0 : (0 : Int) ≤ (k : Int) % 8 * 8 := by omega
          have r2 : ((k : Int) % 8 * 8).toNat = k % 8 * 8 := by omega
          have hsl := shl_lt b k hb
          have HW := Lib.hid hX
          clear hX
          have HSL := Lib.hid hsl
          clear hsl
          have ex := or_shlB W b (k % 8 * 8) HW.out HSL.out
          set_option maxRecDepth 20000 in go_wp2
          set_option maxRecDepth 20000 in go_region
          set_option maxRecDepth 20000 in go_wp2
          go_roundw
          case rel => exact ⟨k + 1, by omega, by go_num, HST.out.drew⟩
          case measure => simp [intOf]; omega
        · have hk3 : k = 280 := by omega
          subst hk3
          have hE : Hid ((xt r 280).take 280 = xt r 280) := Lib.hid (List.take_of_length_le (by rw [xt_len]; omega))
          have hrow := HY.out.row
          rw [hE.out] at hrow
          have HROW := Lib.hid hrow
          have hres : wr.heap[w.heap.size]? = some (.cells (P36 (fun _ => 0) 0) 27 (0, 0)) := (HY.out.below.block _ (Array.getElem?_eq_some_iff.1 HX.out.row1).1).trans HX.out.row1
          have HRES := Lib.hid hres
          have HBW : Hid (Below w.heap.size w wr) := Lib.hid (HX.out.below.trans (HY.out.below.mono HX.out.below.size))
          clear hrow hres
          rw [show ((280 : Nat) : Int) = (280 : Int) from rfl]
          go_wp2_with (first | (refine wpList_load_row rfl 27 (.tmp 8) rfl wo.heap.size rfl _ (P36 (wd (vl (xt r 280))) x) (0, 0) _ HROW.out u27 rfl (i36 _ _) ?_) | (refine wpList_store_row rfl 27 (.tmp 2) (.tmp 68) rfl w.heap.size (P36 (wd (vl (xt r 280))) x) rfl rfl _ _ HRES.out (i36 _ _) (by rw [P36_size, P36_size]) (one36 _ _) ?_))
          exact post_row2 2 3 27 Try.results99 rfl w.heap.size 27 _ (0, 0) _ rfl (setRow_heap _ _ _ _ _ _ HRES.out) u27 rfl (i36 _ _) ⟨rfl, below_setRow HBW.out (Nat.le_refl _) _⟩

/-! The bytes of what was read are those that were read. -/
theorem bt_vl : ∀ (l : List Nat) (i : Nat), (∀ x ∈ l, x < 256) → bt (vl l) i = l.getD i 0
  | [], i, _ => by simp [bt, vl]
  | b :: l, 0, h => by
    have hb := h b (by simp)
    unfold bt
    show (b + 256 * vl l) / 256 ^ 0 % 256 = b
    rw [Nat.pow_zero, Nat.div_one]; omega
  | b :: l, i + 1, h => by
    have hb := h b (by simp)
    have ih := bt_vl l i (fun x hx => h x (by simp [hx]))
    unfold bt at ih ⊢
    show (b + 256 * vl l) / 256 ^ (i + 1) % 256 = l.getD i 0
    rw [Nat.pow_succ, Nat.mul_comm (256 ^ i) 256, ← Nat.div_div_eq_div_mul, show (b + 256 * vl l) / 256 = vl l by omega, ih]
theorem fl280_vl (l : List Nat) (hl : ∀ x ∈ l, x < 256) (h : l.length = 280) : fl280 (vl l) 280 = l := by
  apply List.ext_getElem?
  intro j
  unfold fl280
  by_cases hj : j < 280
  · rw [List.getElem?_map, List.getElem?_range hj, Option.map_some, if_pos hj, bt_vl l j hl, List.getD_eq_getElem?_getD, List.getElem?_eq_getElem (by omega)]; rfl
  · rw [List.getElem?_eq_none (by simpa using hj), List.getElem?_eq_none (by omega)]
theorem sgB_two (l : List Nat) : sgB l = 0 ∨ sgB l = 255 := by unfold sgB; split <;> simp
theorem xt_take (r : List Nat) (h : r.length ≤ 280) : (xt r 280).take r.length = r := by
  apply List.ext_getElem?
  intro j
  rw [List.getElem?_take]
  by_cases hj : j < r.length
  · rw [if_pos hj, xt_get r 280 j (by omega), if_pos hj, List.getD_eq_getElem?_getD, List.getElem?_eq_getElem hj]; rfl
  · rw [if_neg hj, List.getElem?_eq_none (by omega)]
theorem xt_sign (r : List Nat) (m : Nat) (h : r.length ≤ m) (hm : m ≤ 280) : sgB ((xt r 280).take m) = sgB r := by
  rcases Nat.eq_or_lt_of_le h with e | h1
  · subst e; rw [xt_take r hm]
  · have hl : ((xt r 280).take m).length = (m - 1) + 1 := by rw [List.length_take, xt_len]; omega
    rw [sgB_of _ (sgB r) (m - 1) hl (by rw [List.getElem?_take, if_pos (by omega), xt_get r 280 (m - 1) (by omega), if_neg (by omega), if_pos (by omega)])]
    rcases sgB_two r with e | e <;> rw [e] <;> decide
theorem xt_spare (r : List Nat) (m : Nat) (h : r.length < m) (hm : m ≤ 280) : spB ((xt r 280).take m) = true := by
  unfold spB
  have hl : ((xt r 280).take m).length = m := by rw [List.length_take, xt_len]; omega
  rw [List.getLast?_eq_getElem?, hl, List.getElem?_take, if_pos (by omega), xt_get r 280 (m - 1) (by omega), if_neg (by omega), if_pos (by omega), List.dropLast_eq_take, hl, List.take_take, Nat.min_eq_left (by omega), xt_sign r (m - 1) (by omega) (by omega)]
  simp
theorem xt_strip (r : List Nat) (hs : spB r = false) : ∀ m, r.length ≤ m → m ≤ 280 → strip (xt r 280) m = r
  | 0, h, hm => by
    have e : r = [] := List.eq_nil_of_length_eq_zero (by omega)
    subst e; rfl
  | m + 1, h, hm => by
    rcases Nat.eq_or_lt_of_le h with e | h1
    · rw [strip_end _ _ (by rw [← e, xt_take r (by omega)]; exact hs), ← e, xt_take r (by omega)]
    · rw [strip_on _ (m + 1) (by omega) (xt_spare r (m + 1) h1 hm)]
      exact xt_strip r hs m (by omega) (by omega)
end Go.Proofs.Ytljelocomjbanaa

set_option linter.unusedSimpArgs false
set_option linter.unusedVariables false
set_option maxRecDepth 8000
namespace Go.Proofs.Ytljelocomjbanaa
open Go.RowKit Sm

/-- Are these a sum's bytes? -/
def okP (l : List Nat) : Bool := match l with
  | [] => false
  | x :: r => decide (r.length ≤ 280) && !spB r && possB x (((r.length : Nat) : Int) == 0)

theorem xread_no (a : Option Addr) (l : List Nat) (len cap : Nat) (hlen : Hid (len = l.length)) (hc : len ≤ cap) (h : okP l = false) (w : World) (HA : Hid (ByAt w a l)) :
    Calls Try.prog 99 #[.slice a len cap] w (RetX w) := by
  rcases l with _ | ⟨x, r⟩
  · exact xread_size a len cap (Or.inl hlen.out) w
  · by_cases hr : r.length ≤ 280
    · obtain ⟨g, off, A, n, C, H⟩ := hd_of a x r len cap hlen hc w HA
      have hn := H.rlen.out
      refine xread_bad a len cap x r g off A n C w (Lib.hid H) (by omega) ?_
      unfold okP at h
      simp only [decide_eq_true hr, Bool.true_and] at h
      rw [hn]
      cases hs : spB r
      · right; rw [hs] at h; exact ⟨rfl, by simpa using h⟩
      · left; rfl
    · exact xread_size a len cap (Or.inr (by have := hlen.out; rw [List.length_cons] at this; omega)) w
theorem xread_yes (a : Option Addr) (x : Nat) (r : List Nat) (len cap : Nat) (hlen : Hid (len = (x :: r).length)) (hc : len ≤ cap) (h : okP (x :: r) = true) (w : World) (HA : Hid (ByAt w a (x :: r))) :
    Calls Try.prog 99 #[.slice a len cap] w (RetY w (vl (xt r 280)) x) := by
  obtain ⟨g, off, A, n, C, H⟩ := hd_of a x r len cap hlen hc w HA
  have hn := H.rlen.out
  unfold okP at h
  simp only [Bool.and_eq_true, decide_eq_true_eq, Bool.not_eq_true'] at h
  exact xread_ok a len cap x r g off A n C w (Lib.hid H) (by omega) (Lib.hid h.1.2) (by rw [hn]; exact h.2)

theorem wd_nought : wd 0 = fun _ => 0 := by funext i; unfold wd; simp
/-- An empty sum built, its operation guarded or not. -/
theorem wpList_build36w {ops : Array Oper} {rest : List Oper} {o : Oper} {a : Act} {w : World} {Q : Exit → Act → World → Prop} (hw : Region.wanted o (yielded ops a.tmps) = true) (ho : o.op = .build 27 #[])
    (h : wpList Try.prog ops Q rest (a.put o.dst (.agg (P36 (wd 0) 0))) w) : wpList Try.prog ops Q (o :: rest) a w := by
  refine wpList_step fun K hK => ?_
  rw [if_pos hw]
  have e : (#[] : Array (Nat × Operand)).map (fun (i, x) => (i, a.eval x)) = #[] := by simp
  refine wp_build _ _ ho ?_ ?_
  · rw [e]
    show (Try.prog.built 27 []).isSome = true
    rw [built36e]; rfl
  · rw [e]
    show K (a.put o.dst (.agg ((Try.prog.built 27 []).getD #[]))) w
    rw [built36e, Option.getD_some, zeros36, ← wd_nought]
    exact hK _ _ h

theorem yieldsIf_conv {ops : Array Oper} {S : World → Prop} {op : Oper} {a : Act} (hw : Region.wanted op (yielded ops a.tmps) = true) (x : Operand) (ho : op.op = .convert 39 9 x) (v u : Value) (hx : a.eval x = v)
    (h : ∀ w, S w → (convert 39 9 v).run Try.prog w = .ok u w) : YieldsIf Try.prog ops S op u a :=
  .inl ⟨hw, fun w hw' => by
    unfold execOp
    simp only [ho, hx, Sem.run_bind, Sem.run_pure, h w hw', Result.andThen_ok]⟩

theorem wp_conv {o : Oper} {a : Act} {w : World} {K : Act → World → Prop} {Q : Exit → Act → World → Prop} (x : Operand) (ho : o.op = .convert 39 9 x) (v u : Value) (hx : a.eval x = v)
    (h : (convert 39 9 v).run Try.prog w = .ok u w) (hk : K (a.put o.dst u) w) : o.wp Try.prog a w K Q := by
  unfold Oper.wp execOp
  simp only [ho, hx, Sem.run_bind, h, Result.andThen_ok]
  exact hk

end Go.Proofs.Ytljelocomjbanaa

set_option linter.unusedSimpArgs false
set_option linter.unusedVariables false
set_option maxRecDepth 8000
namespace Go.Proofs.Ytljelocomjbanaa
open Go.RowKit Sm

theorem top_bytes : top = 256 ^ 280 := by decide +kernel
theorem vl_range (n : Nat) : ∀ k, vl ((List.range k).map (bt n)) = n % 256 ^ k
  | 0 => by simp [vl, Nat.mod_one]
  | k + 1 => by
    rw [List.range_succ, List.map_append, List.map_singleton, vl_snoc, vl_range n k, List.length_map, List.length_range, Nat.mod_pow_succ]
    rfl
theorem vl_fl (n : Nat) (h : n < top) : vl (fl280 n 280) = n := by
  have e : fl280 n 280 = (List.range 280).map (bt n) := by
    unfold fl280
    exact List.map_congr_left fun i hi => by rw [if_pos (List.mem_range.1 hi)]
  rw [e, vl_range, ← top_bytes, Nat.mod_eq_of_lt h]
theorem xt_ext {r q : List Nat} (h : ∀ j, j < 280 → (if j < r.length then r.getD j 0 else sgB r) = (if j < q.length then q.getD j 0 else sgB q)) : xt r 280 = xt q 280 := by
  unfold xt
  refine List.map_congr_left fun j hj => ?_
  have hj := List.mem_range.1 hj
  have := h j hj
  simp only [hj, if_true]
  exact this
theorem xt_more (r : List Nat) (x : Nat) (hx : x = sgB r) : xt (r ++ [x]) 280 = xt r 280 := by
  have hs : sgB (r ++ [x]) = sgB r := by
    rw [sgB_of (r ++ [x]) x r.length (by simp) (by simp), hx]
    rcases sgB_two r with h | h <;> rw [h] <;> rfl
  refine xt_ext fun j hj => ?_
  rw [hs]
  rcases Nat.lt_trichotomy j r.length with h | h | h
  · rw [if_pos (by simp; omega), if_pos h, List.getD_eq_getElem?_getD, List.getD_eq_getElem?_getD, List.getElem?_append_left h]
  · subst h
    rw [if_pos (by simp), if_neg (Nat.lt_irrefl _), List.getD_eq_getElem?_getD, List.getElem?_append_right (Nat.le_refl _)]
    simpa using hx
  · rw [if_neg (by simp; omega), if_neg (by omega)]
theorem xt_whole (F : List Nat) (h : F.length = 280) : xt F 280 = F := by
  refine List.ext_getElem? fun j => ?_
  by_cases hj : j < 280
  · rw [xt_get F 280 j hj, if_pos (by omega), List.getD_eq_getElem?_getD, List.getElem?_eq_getElem (by omega)]; rfl
  · rw [List.getElem?_eq_none (by rw [xt_len]; omega), List.getElem?_eq_none (by omega)]
theorem spB_concat (r : List Nat) (x : Nat) : spB (r ++ [x]) = (x == sgB r) := by unfold spB; simp
theorem strip_spec (F : List Nat) (h : F.length = 280) : ∀ m, m ≤ 280 → ∃ k, k ≤ m ∧ strip F m = F.take k ∧ spB (F.take k) = false ∧ xt (F.take k) 280 = xt (F.take m) 280 := by
  intro m
  induction m with
  | zero => intro _; exact ⟨0, Nat.le_refl _, by rw [strip_end F 0 (by simp [spB])], by simp [spB], rfl⟩
  | succ m ih =>
    intro hm
    cases hs : spB (F.take (m + 1))
    · exact ⟨m + 1, Nat.le_refl _, strip_end F _ hs, hs, rfl⟩
    · obtain ⟨k, h1, h2, h3, h4⟩ := ih (by omega)
      refine ⟨k, by omega, by rw [strip_on F _ (by omega) hs]; exact h2, h3, ?_⟩
      have e : F.take (m + 1) = F.take m ++ [F[m]] := List.take_succ_eq_append_getElem (by omega)
      rw [e, spB_concat] at hs
      rw [h4, e, xt_more _ _ (eq_of_beq hs)]
/-- What a sum may have beside a number. -/
def Poss (h n : Nat) : Prop := h < 32 ∧ h / 8 % 2 = 1 ∧ (h / 16 % 2 = 0 → h = 8 ∧ n = 0) ∨ h = 0 ∧ n = 0
theorem vl_nought : vl (xt [] 280) = 0 := by decide +kernel
theorem strip_nought : strip (fl280 0 280) 280 = [] := by
  have e : fl280 0 280 = xt [] 280 := by
    have h := fl280_vl (xt [] 280) (xt_lt [] 280 (by simp)) (xt_len [] 280)
    rw [vl_nought] at h
    exact h
  rw [e]
  exact xt_strip [] (by simp [spB]) 280 (by simp) (Nat.le_refl _)
theorem poss_ok (h n : Nat) (hp : Poss h n) (hn : n < top) : okP (h :: strip (fl280 n 280) 280) = true ∧ vl (xt (strip (fl280 n 280) 280) 280) = n := by
  obtain ⟨k, h1, h2, h3, h4⟩ := strip_spec (fl280 n 280) (fl280_len n 280) 280 (Nat.le_refl _)
  have e : (fl280 n 280).take 280 = fl280 n 280 := List.take_of_length_le (Nat.le_of_eq (fl280_len n 280))
  rw [e, xt_whole _ (fl280_len n 280)] at h4
  refine ⟨?_, by rw [h2, h4, vl_fl n hn]⟩
  have hl : (strip (fl280 n 280) 280).length ≤ 280 := by rw [h2, List.length_take]; omega
  have hs : spB (strip (fl280 n 280) 280) = false := by rw [h2]; exact h3
  unfold okP
  simp only [decide_eq_true hl, hs, Bool.not_false, Bool.true_and]
  unfold possB
  rcases hp with ⟨p1, p2, p3⟩ | ⟨rfl, rfl⟩
  · rw [if_neg (by omega)]
    by_cases hc : h / 16 % 2 = 1
    · rw [if_pos hc]; simpa using p2
    · obtain ⟨rfl, rfl⟩ := p3 (by omega)
      rw [strip_nought]; decide
  · rw [strip_nought]; decide
theorem or_bits (h k : Nat) (hh : h < 32) (hk : k < 32) : (h ||| k) / 8 % 2 = max (h / 8 % 2) (k / 8 % 2) ∧ (h ||| k) / 16 % 2 = max (h / 16 % 2) (k / 16 % 2) ∧ (h ||| k) < 32 := by
  have key : ∀ p q : _root_.Fin 32, (p.val ||| q.val) / 8 % 2 = max (p.val / 8 % 2) (q.val / 8 % 2) ∧ (p.val ||| q.val) / 16 % 2 = max (p.val / 16 % 2) (q.val / 16 % 2) ∧ (p.val ||| q.val) < 32 := by decide +kernel
  exact key ⟨h, hh⟩ ⟨k, hk⟩
theorem kind_cases (b : Nat) : kindB b / 8 % 2 = 1 ∧ kindB b < 32 ∧ (kindB b / 16 % 2 = 1 ∨ kindB b = 8 ∧ b = 9223372036854775808) := by
  unfold kindB
  split
  · exact ⟨by decide, by decide, .inl (by decide)⟩
  · split
    · split <;> exact ⟨by decide, by decide, .inl (by decide)⟩
    · split
      · exact ⟨by decide, by decide, .inr ⟨rfl, by assumption⟩⟩
      · exact ⟨by decide, by decide, .inl (by decide)⟩
theorem poss_acc (l : List Nat) : Poss (accH l) (accN l) :=
  list_snoc (p := fun l => Poss (accH l) (accN l)) (.inr ⟨rfl, rfl⟩) (fun l b ih => by
    rw [accH_snoc, accN_snoc]
    obtain ⟨k1, k2, k3⟩ := kind_cases b
    have hl : accH l < 32 := accH_lt l
    obtain ⟨o1, o2, o3⟩ := or_bits (accH l) (kindB b) hl k2
    refine .inl ⟨o3, by rw [o1, k1]; omega, fun h0 => ?_⟩
    rw [o2] at h0
    rcases k3 with c | ⟨c, rfl⟩
    · omega
    · have u0 : unit 9223372036854775808 = 0 := by decide +kernel
      rw [c, u0]
      rcases ih with ⟨i1, i2, i3⟩ | ⟨i1, i2⟩
      · obtain ⟨j1, j2⟩ := i3 (by omega)
        rw [j1, j2]; exact ⟨rfl, rfl⟩
      · rw [i1, i2]; exact ⟨rfl, rfl⟩) l
def BkGives (n h : Nat) : Prop := ∀ w, Calls Try.prog 57 #[.agg (P36 (wd n) h)] w fun e w' => ∃ A N C, e = .returned (.slice A N C) ∧ Hid (Calls Try.prog 99 #[.slice A N C] w' (RetY w' n h)) ∧ Below w.heap.size w w'
theorem BkGives.at {n h : Nat} (H : BkGives n h) (w : World) : Calls Try.prog 57 #[.agg (P36 (wd n) h)] w fun e w' => ∃ A N C, e = .returned (.slice A N C) ∧ Hid (Calls Try.prog 99 #[.slice A N C] w' (RetY w' n h)) ∧ Below w.heap.size w w' := H w
theorem back_any (n h : Nat) (hn : n < top) (hp : Poss h n) : BkGives n h := fun w => by
  obtain ⟨h1, h2⟩ := poss_ok h n hp hn
  have hh : h < 256 := by rcases hp with ⟨p, -, -⟩ | ⟨p, -⟩ <;> omega
  refine (sumBytes_any n h hh w).mono ?_
  rintro e w' ⟨A, C, rfl, own, hb⟩
  refine ⟨A, _, C, rfl, Lib.hid ?_, hb⟩
  have hr := xread_yes A h (strip (fl280 n 280) 280) _ C (Lib.hid rfl) own.caps.1 h1 w' (Lib.hid own.byAt)
  rwa [h2] at hr
end Go.Proofs.Ytljelocomjbanaa

set_option linter.unusedSimpArgs false
set_option linter.unusedVariables false
set_option maxRecDepth 8000
namespace Go.Proofs.Ytljelocomjbanaa
open Go.RowKit Go.WideShapes Col Sm
theorem conv_sbC (s : List Nat) (hs : WfT s) (n : Nat) (hn : n = s.length) (w : World) : ∃ (w' : World) (C : Nat), (convert 9 39 (.string (strB s))).run Try.prog w = .ok (.slice (some ⟨w.heap.size, 0, none⟩) n C) w' ∧ ByAt w' (some ⟨w.heap.size, 0, none⟩) s ∧ Below w.heap.size w w' ∧ n ≤ C := by
  have h := Go.Lib.run_convert_string_bytes w 9 39 5 (strB s) Try.underlying9 Try.underlying39 Try.underlying5
  obtain ⟨w', C, h1, h2, h3⟩ := conv_sb s hs n hn w
  have e := h.symm.trans h1
  injection e with e1 e2
  injection e1 with e3 e4 e5
  exact ⟨w', C, h1, h2, h3, by rw [← e5, ← e4]; exact grownCap_ge _ _ _ _⟩
theorem tP_back2 {most : Nat} (s : List Nat) (h : s.length ≤ most) (hl : s.length < 18446744073709551616) (r : List Nat) : tP most (txL s ++ r) = some (s, r) := by
  unfold tP txL
  rw [List.append_assoc, uP_ubm hl h]
  simp
theorem strip_sub2 (l : List Nat) : ∀ (m : Nat), ∀ x ∈ strip l m, x ∈ l
  | 0 => fun x h => by unfold strip at h; simp at h
  | k + 1 => fun x h => by
    unfold strip at h
    split at h
    · exact strip_sub2 l k x h
    · exact List.mem_of_mem_take h
/-- How a reading of a sum ends. -/
def SYes (g : Nat) (w : World) (N h : Nat) (r : List Nat) (e : Ending) (w' : World) : Prop := e = .returned (.agg (P36 (wd N) h)) ∧ Rd w' g r ∧ Kept (fun k => k = g ∨ w.heap.size ≤ k) w w'
theorem sread_any (N h : Nat) (hN : N < top) (hp : Poss h N) (A : Option Addr) (n C : Nat) (hn : Hid (n = (sby N h).length)) (hC : n ≤ C) (w : World) (HA : Hid (ByAt w A (sby N h))) :
    Calls Try.prog 99 #[.slice A n C] w (RetY w N h) := by
  obtain ⟨h1, h2⟩ := poss_ok h N hp hN
  have hr := xread_yes A h (strip (fl280 N 280) 280) n C hn hC h1 w HA
  rwa [h2] at hr
set_option maxHeartbeats 4000000 in
theorem readSum_yes (g N h : Nat) (hN : N < top) (hh : h < 256) (hp : Poss h N) (r : List Nat) (hql : (txL (sby N h) ++ r).length ≤ 1099511627776) (w : World) (H : Hid (Rd w g (txL (sby N h) ++ r))) :
    Calls Try.prog 64 #[.pointer (some ⟨g, 0, none⟩)] w (SYes g w N h r) := by
  have hsl := sby_len N h
  have hwf : WfT (sby N h) := fun x hx => by
    rcases List.mem_cons.1 hx with e | e
    · omega
    · exact fl280_lt N 280 x (strip_sub2 _ _ x e)
  have HT : Hid (tP 281 (txL (sby N h) ++ r) = some (sby N h, r)) := Lib.hid (tP_back2 (sby N h) hsl (by omega) r)
  obtain ⟨n, hn⟩ : ∃ n, n = (sby N h).length := ⟨_, rfl⟩
  have HN := Lib.hid hn
  have HSR := Lib.hid fun A C hC w HA => sread_any N h hN hp A n C HN hC w HA
  have HCV := Lib.hid fun (w : World) => conv_sbC (sby N h) hwf n hn w
  clear hn hwf hsl
  go_enter Try.func64, Try.ntmps64
  go_upto_region 1 with fail
  rw [zeros36]
  have HB0 := Lib.hid ((Below.refl w.heap.size w).alloc (Nat.le_refl _) (.cells (P36 (fun _ => 0) 0) 27))
  have HE0 := Lib.hid (heap_alloc_new' w (.cells (P36 (fun _ => 0) 0) 27))
  have HG := Lib.hid H.out.gltA
  have HRD := Lib.hid (H.out.highA (S := fun _ => False) ((Kept.refl _ _).alloc (.cells (P36 (fun _ => 0) 0) 27)) (fun _ h => h.elim))
  generalize w.alloc _ = w0 at *
  go_wp2_with (first
    | (go_at_call 100; refine (text_yes g 281 (by decide) _ (sby N h) r HT (by omega) _ HRD).mono ?_; rintro e w1 hy; obtain ⟨rfl, HR1, HK1⟩ := Yes.rd hy; clear hy; have HE1 := Lib.hid (HK1.out.heap HE0.out (fun h => by have h : w.heap.size = g := h; have := HG.out; omega)); obtain ⟨w2, C2, hcv, hby, hb2, hC2⟩ := HCV.out w1; have HBY := Lib.hid hby; have HB2 := Lib.hid hb2; clear hby hb2)
    | (go_at_call 99; refine (HSR.out _ _ hC2 _ HBY).mono ?_; rintro e w3 ⟨rfl, hb3⟩; clear hcv; have HB3 := Lib.hid (below_to HB2.out hb3); clear hb3)
    | (rw [zeros36]; refine wpList_store_row rfl 27 (.tmp 3) (.tmp 10) rfl _ (P36 (wd N) h) rfl rfl _ _ (heap_alloc_new _ _) (i36 _ _) (by rw [P36_size, P36_size]) (one36 _ _) ?_; rw [World.setRow_alloc_new]; have HR5 := Lib.hid (heap_alloc_new' w3 (.cells (P36 (wd N) h) 27)); have HB5 := Lib.hid (HB3.out.alloc HB3.out.size (.cells (P36 (wd N) h) 27)); have HE5 := Lib.hid (row_keep HE1.out HB5.out))
    | (go_at_call 66; (with_reducible refine (check_true _ _).mono ?_); rintro e w9 ⟨rfl, rfl⟩)
    | (refine wpList_sum (.tmp 3) rfl _ rfl _ _ _ _ HR5.out rfl ?_)
    | (refine wpList_keepSum (.tmp 2) (.tmp 16) rfl w.heap.size rfl N h rfl _ _ _ HE5.out rfl ?_))
  refine post_row 2 27 Try.results64 rfl w.heap.size 27 _ (0, 0) _ rfl (setRow_heap _ _ _ _ _ _ HE5.out) u27 rfl (i36 _ _) ⟨rfl, ?_, ?_⟩
  · exact (HR1.out.highA (S := fun _ => False) (Kept.of_below HB5.out) (fun _ h => h.elim)).highA (kept_setRow _ _ _) (fun k hk => by have := HG.out; omega)
  · have k1 := (Kept.of_below (S := fun k => k = g ∨ w.heap.size ≤ k) HB0.out).trans (HK1.out.mono fun k h => .inl (.inl h))
    have k2 := k1.trans ((Kept.of_below (S := fun _ => False) HB5.out).mono fun k h => h.elim)
    exact k2.trans ((kept_setRow _ w.heap.size _).mono fun k h => by subst h; exact .inl (.inr (Nat.le_refl _)))
end Go.Proofs.Ytljelocomjbanaa

set_option linter.unusedSimpArgs false
set_option linter.unusedVariables false
set_option maxRecDepth 8000
namespace Go.Proofs.Ytljelocomjbanaa
open Go.RowKit Go.WideShapes Col Sm
theorem T39_list (n : Nat) (f : Nat → Nat) (h lo hi : Nat) : (T39 n f h lo hi).toList = .int .u64 (n : Int) :: ((P36 f h).toList ++ [.int .u64 (lo : Int), .int .u64 (hi : Int)]) := by unfold T39; simp
theorem run_store_sum39 (w : World) (g n : Nat) (f : Nat → Nat) (h lo hi : Nat) (F : Nat → Nat) (H : Nat) (hs : StAt w g n f h lo hi) :
    (storeVar 27 ⟨g, 1, none⟩ (.agg (P36 F H))).run Try.prog w = .ok () (w.setRow g (T39 n F H lo hi)) := by
  have h1 := run_storeCells_at (P := Try.prog) g 1 29 (P36 F H).toList 0 (T39 n f h lo hi) w hs (by rw [T39_size, Array.length_toList, P36_size]; omega) (fun v hv => (Array.all_eq_true_iff_forall_mem.1 (one36 F H)) v (by simpa using hv))
  have e : ((T39 n f h lo hi).toList.take (1 + 0) ++ (P36 F H).toList ++ (T39 n f h lo hi).toList.drop (1 + 0 + (P36 F H).toList.length)).toArray = T39 n F H lo hi := by
    rw [Array.length_toList, P36_size, T39_list]
    have hl : (P36 f h).toList.length = 36 := by rw [Array.length_toList, P36_size]
    rw [show 1 + 0 + 36 = 36 + 1 by omega, List.drop_succ_cons, List.drop_append_of_le_length (by omega), List.drop_of_length_le (by omega)]
    refine Array.toList_inj.1 ?_
    rw [T39_list]
    simp
  rw [e] at h1
  have hi36 := i36 F H
  cases hq : Try.prog.info? 27 with
  | none => rw [hq] at hi36; simp at hi36
  | some i =>
    rw [hq] at hi36
    have hsz : (P36 F H).size = i.size := by simp at hi36; omega
    simp [storeVar, sizeOf, typeInfo, hq, Value.cells, hsz, h1]
theorem wpList_store_sum39 {ops : Array Oper} {rest : List Oper} {op : Oper} {a : Act} {w : World} {Q : Exit → Act → World → Prop} (hgd : op.guard = none) (x y : Operand) (ho : op.op = .store 27 x y)
    (g : Nat) (hx : a.eval x = .pointer (some ⟨g, 1, none⟩)) (F : Nat → Nat) (H : Nat) (hy : a.eval y = .agg (P36 F H)) (n : Nat) (f : Nat → Nat) (h lo hi : Nat) (hs : StAt w g n f h lo hi)
    (hh : wpList Try.prog ops Q rest (a.put op.dst undef) (w.setRow g (T39 n F H lo hi))) : wpList Try.prog ops Q (op :: rest) a w :=
  wpList_plain hgd fun _ hK => by
    unfold Oper.wp execOp
    simp only [ho, hx, hy, Instr.storeAt, Instr.sureAddr, Sem.run_bind, Sem.run_pure, Result.andThen_ok, run_store_sum39 w g n f h lo hi F H hs]
    exact hK _ _ hh
theorem StAt.putSum {w : World} {g n : Nat} {f : Nat → Nat} {h lo hi : Nat} (hs : StAt w g n f h lo hi) (F : Nat → Nat) (H : Nat) : StAt (w.setRow g (T39 n F H lo hi)) g n F H lo hi := setRow_heap _ _ _ _ _ _ hs
theorem set39 (n : Nat) (f : Nat → Nat) (h lo hi i j : Nat) (u : Value) (hi' : i < 39) : ((T39 n f h lo hi).toList.set i u).toArray[j]? = if i = j then some u else (T39 n f h lo hi)[j]? := by
  rw [List.getElem?_toArray, List.getElem?_set, Array.getElem?_toList]
  by_cases e : i = j
  · subst e
    rw [if_pos rfl, if_pos rfl, if_pos (by rw [Array.length_toList, T39_size]; exact hi')]
  · rw [if_neg e, if_neg e]
theorem StAt.put0 {w : World} {g n : Nat} {f : Nat → Nat} {h lo hi : Nat} (hs : StAt w g n f h lo hi) (x : Nat) : StAt (w.setCell ⟨g, 0, none⟩ (.int .u64 (x : Int))) g x f h lo hi := by
  have h1 := row_set (cs := (T39 n f h lo hi).toList) (by rw [Array.toArray_toList]; exact hs) 0 (.int .u64 (x : Int))
  unfold StAt
  rw [h1]
  congr 2
  refine T39_ext _ _ _ _ _ (by simp [T39_size]) ?_ (fun i hi' => ?_) ?_ ?_
  · rw [set39 _ _ _ _ _ _ _ _ (by decide), if_pos rfl]
  · rw [set39 _ _ _ _ _ _ _ _ (by decide), if_neg (by omega), T39_sum _ _ _ _ _ i hi']
  · rw [set39 _ _ _ _ _ _ _ _ (by decide), if_neg (by omega), T39_lo]
  · rw [set39 _ _ _ _ _ _ _ _ (by decide), if_neg (by omega), T39_hi]
theorem StAt.putLo {w : World} {g n : Nat} {f : Nat → Nat} {h lo hi : Nat} (hs : StAt w g n f h lo hi) (x : Nat) : StAt (w.setCell ⟨g, 37, none⟩ (.int .u64 (x : Int))) g n f h x hi := by
  have h1 := row_set (cs := (T39 n f h lo hi).toList) (by rw [Array.toArray_toList]; exact hs) 37 (.int .u64 (x : Int))
  unfold StAt
  rw [h1]
  congr 2
  refine T39_ext _ _ _ _ _ (by simp [T39_size]) ?_ (fun i hi' => ?_) ?_ ?_
  · rw [set39 _ _ _ _ _ _ _ _ (by decide), if_neg (by omega), T39_n]
  · rw [set39 _ _ _ _ _ _ _ _ (by decide), if_neg (by omega), T39_sum _ _ _ _ _ i hi']
  · rw [set39 _ _ _ _ _ _ _ _ (by decide), if_pos rfl]
  · rw [set39 _ _ _ _ _ _ _ _ (by decide), if_neg (by omega), T39_hi]
theorem StAt.putHi {w : World} {g n : Nat} {f : Nat → Nat} {h lo hi : Nat} (hs : StAt w g n f h lo hi) (x : Nat) : StAt (w.setCell ⟨g, 38, none⟩ (.int .u64 (x : Int))) g n f h lo x := by
  have h1 := row_set (cs := (T39 n f h lo hi).toList) (by rw [Array.toArray_toList]; exact hs) 38 (.int .u64 (x : Int))
  unfold StAt
  rw [h1]
  congr 2
  refine T39_ext _ _ _ _ _ (by simp [T39_size]) ?_ (fun i hi' => ?_) ?_ ?_
  · rw [set39 _ _ _ _ _ _ _ _ (by decide), if_neg (by omega), T39_n]
  · rw [set39 _ _ _ _ _ _ _ _ (by decide), if_neg (by omega), T39_sum _ _ _ _ _ i hi']
  · rw [set39 _ _ _ _ _ _ _ _ (by decide), if_neg (by omega), T39_lo]
  · rw [set39 _ _ _ _ _ _ _ _ (by decide), if_pos rfl]
end Go.Proofs.Ytljelocomjbanaa

set_option linter.unusedSimpArgs false
set_option linter.unusedVariables false
set_option maxRecDepth 8000
namespace Go.Proofs.Ytljelocomjbanaa
open Go.RowKit Go.WideShapes Col Sm
theorem b_gt64 {n : Nat} {b : Bool} (h : decide (0 < (n : Int)) = b) (w : World) : (binOp .gtr 24 (.int .u64 (n : Int)) (.int .u64 0)).run Try.prog w = .ok (.bool b) w := by
  rw [← h]
  rfl
/-- While a state is read: the reader, the state so far, the result's own block. -/
structure SRv (w : World) (g : Nat) (q : List Nat) (n : Nat) (f : Nat → Nat) (h lo hi : Nat) (wr : World) : Prop where
  rd : Rd wr g q
  row : StAt wr (w.heap.size + 1) n f h lo hi
  res : StAt wr w.heap.size 0 (fun _ => 0) 0 0 0
  kept : Kept (fun k => k = g ∨ w.heap.size ≤ k) w wr
  lt : g < w.heap.size
section
variable {w wr w2 : World} {g n h lo hi : Nat} {f : Nat → Nat} {q r : List Nat}
theorem SRv.read (H : SRv w g q n f h lo hi wr) (hr : Rd w2 g r) (hk : Kept (fun k => k = g ∨ wr.heap.size ≤ k) wr w2) : SRv w g r n f h lo hi w2 := by
  have h1 := lt_of_row H.row
  have h2 := H.lt
  exact ⟨hr, hk.heap H.row (fun h => by rcases h with h | h <;> omega), hk.heap H.res (fun h => by rcases h with h | h <;> omega), H.kept.trans (hk.mono fun k h => by
    rcases h with h | h
    · exact .inl (.inl h)
    · exact .inl (.inr (by have := H.kept.size; omega))), H.lt⟩
theorem SRv.readO (H : SRv w g q n f h lo hi wr) (hr : Rd w2 g r) (hk : Kept (Only g) wr w2) : SRv w g r n f h lo hi w2 := H.read hr (hk.mono fun k h => .inl (.inl h))
theorem SRv.below (H : SRv w g q n f h lo hi wr) (hb : Below wr.heap.size wr w2) : SRv w g q n f h lo hi w2 :=
  H.read (H.rd.highA (S := fun _ => False) (Kept.of_below hb) (fun _ h => h.elim)) (Kept.of_below hb)
theorem SRv.setAt (H : SRv w g q n f h lo hi wr) (i x n' lo' hi' : Nat) (hs : StAt (wr.setCell ⟨w.heap.size + 1, i, none⟩ (.int .u64 (x : Int))) (w.heap.size + 1) n' f h lo' hi') : SRv w g q n' f h lo' hi' (wr.setCell ⟨w.heap.size + 1, i, none⟩ (.int .u64 (x : Int))) :=
  ⟨H.rd.highA (S := fun k => k = w.heap.size + 1) ((Kept.refl _ _).setCell _ _ (.inl rfl)) (fun k hk => by have := H.lt; omega), hs,
    (Below.heap_setCell _ _ _ _ (by show _ ≠ w.heap.size + 1; omega)).trans H.res, H.kept.setCell _ _ (.inl (.inr (by show w.heap.size ≤ w.heap.size + 1; omega))), H.lt⟩
theorem SRv.sum (H : SRv w g q n f h lo hi wr) (F : Nat → Nat) (k : Nat) : SRv w g q n F k lo hi (wr.setRow (w.heap.size + 1) (T39 n F k lo hi)) :=
  ⟨H.rd.highA (kept_setRow _ _ _) (fun k hk => by have := H.lt; omega), H.row.putSum F k, (setRow_other _ _ _ _ (by omega)).trans H.res, H.kept.trans ((kept_setRow _ _ _).mono fun k h => .inl (.inr (by omega))), H.lt⟩
theorem SRv.fz (H : SRv w g q n f h lo hi wr) (i : Nat) : wr.frozen? ⟨w.heap.size + 1, i, none⟩ = false := row_frozen H.row i
end
theorem SRv.start (w : World) (g : Nat) (q : List Nat) (H : Rd w g q) : SRv w g q 0 (fun _ => 0) 0 0 0 ((w.alloc (.cells (T39 0 (fun _ => 0) 0 0 0) 29)).alloc (.cells (T39 0 (fun _ => 0) 0 0 0) 29)) :=
  ⟨H.highA (S := fun _ => False) (((Kept.refl _ _).alloc _).alloc _) (fun _ h => h.elim), heap_alloc2_new w _ _, heap_alloc2_old w _ _, ((Kept.refl _ _).alloc _).alloc _, H.gltA⟩
/-- How a reading of a state ends. -/
def StYes (g : Nat) (w : World) (n N h lo hi : Nat) (r : List Nat) (e : Ending) (w' : World) : Prop := e = .returned (.agg (T39 n (wd N) h lo hi)) ∧ Rd w' g r ∧ Kept (fun k => k = g ∨ w.heap.size ≤ k) w w'
set_option maxHeartbeats 8000000 in
theorem stRead_yes (g n N h lo hi : Nat) (hn : n ≤ 1099511627776) (hN : N < top) (hh : h < 256) (hp : Poss h N) (hlo : lo < 18446744073709551616) (hhi : hi < 18446744073709551616) (K1 : Hid (Fl.canon lo = lo)) (K2 : Hid (Fl.canon hi = hi)) (b : Bool)
    (HB : Hid ((bits .and .u8 (h : Int) 8 != 0) = b)) (HGT : Hid (decide (0 < (n : Int)) = b)) (HZ : n = 0 → lo = 0 ∧ hi = 0) (w : World) (H : Hid (Rd w g (stBy n N h lo hi))) :
    Calls Try.prog 25 #[.pointer (some ⟨g, 0, none⟩)] w (StYes g w n N h lo hi []) := by
  have HR := Lib.hid (SRv.start w g _ H.out)
  have hAN : ∀ w, Calls Try.prog 67 #[.agg (P36 (wd N) h)] w fun e w' => e = .returned (.bool b) ∧ Below w.heap.size w w' := fun w => by
    have h1 := any_any N h w
    rw [HB.out] at h1
    exact h1
  have HAN := Lib.hid hAN
  have hsl := sby_len N h
  have t1 := ub10 (show n < 18446744073709551616 by omega)
  have t2 := ub10 hlo
  have t3 := ub10 hhi
  have t4 := ub10 (show (sby N h).length < 18446744073709551616 by omega)
  obtain ⟨q3, hq3⟩ : ∃ q3, q3 = ub hi ++ [] := ⟨_, rfl⟩
  obtain ⟨q2, hq2⟩ : ∃ q2, q2 = ub lo ++ q3 := ⟨_, rfl⟩
  obtain ⟨q1, hq1⟩ : ∃ q1, q1 = txL (sby N h) ++ q2 := ⟨_, rfl⟩
  have hq0 : stBy n N h lo hi = ub n ++ q1 := by unfold stBy; rw [hq1, hq2, hq3, List.append_nil]
  have l3 : (ub hi ++ []).length ≤ 10 := by rw [List.append_nil]; exact t3
  have l2 : (ub lo ++ q3).length ≤ 20 := by rw [hq3, List.length_append]; omega
  have l1 : (txL (sby N h) ++ q2).length ≤ 400 := by rw [hq2, List.length_append]; unfold txL; rw [List.length_append]; omega
  have l0 : (ub n ++ q1).length ≤ 500 := by rw [hq1, List.length_append]; omega
  have L0 := Lib.hid l0; have L1 := Lib.hid l1; have L2 := Lib.hid l2; have L3 := Lib.hid l3
  rw [hq0] at HR
  have HU0 : Hid (uP 1099511627776 (ub n ++ q1) = some (n, q1)) := Lib.hid (uP_ubm (by omega) hn)
  have E1 := Lib.hid hq1; have E2 := Lib.hid hq2; have E3 := Lib.hid hq3
  clear hAN hsl t1 t2 t3 t4 l0 l1 l2 l3 hq0 hq1 hq2 hq3 H HB
  go_enter Try.func25, Try.ntmps25
  go_wp2_with fail
  rw [zeros39]
  refine (uint_yes g 1099511627776 n (ub n ++ q1) q1 HU0 (by have := L0.out; omega) _ (Lib.hid HR.out.rd)).mono ?_
  rintro e w1 hy
  obtain ⟨rfl, HR1, HK1⟩ := Yes.rd hy
  have HW1 := Lib.hid (HR.out.readO HR1.out HK1.out)
  clear hy HR1 HK1 HR
  have c0 := HW1.out.row.c0
  have f0 := HW1.out.fz 0
  go_wp2_with fail
  have HX1 := Lib.hid (HW1.out.setAt 0 n _ _ _ (HW1.out.row.put0 n))
  clear c0 f0 HW1
  generalize w1.setCell _ _ = x1 at *
  refine (readSum_yes g N h hN hh hp q2 (by have := L1.out; omega) _ (Lib.hid (E1.out ▸ HX1.out.rd))).mono ?_
  rintro e w2 ⟨rfl, hr2, hk2⟩
  have HW2 := Lib.hid (HX1.out.read hr2 hk2)
  clear hr2 hk2 HX1
  go_wp2_with (refine wpList_store_sum39 rfl (.tmp 9) (.tmp 8) rfl (w.heap.size + 1) rfl (wd N) h rfl _ _ _ _ _ HW2.out.row ?_)
  have HX2 := Lib.hid (HW2.out.sum (wd N) h)
  clear HW2
  generalize w2.setRow _ _ = x2 at *
  refine (readBits_yes g lo q3 hlo K1 (by have := L2.out; omega) _ (Lib.hid (E2.out ▸ HX2.out.rd))).mono ?_
  rintro e w3 hy
  obtain ⟨rfl, HR3, HK3⟩ := Yes.rd hy
  have HW3 := Lib.hid (HX2.out.readO HR3.out HK3.out)
  clear hy HR3 HK3 HX2
  have c2 := HW3.out.row.c2
  have f2 := HW3.out.fz 37
  go_wp2_with fail
  have HX3 := Lib.hid (HW3.out.setAt 37 lo _ _ _ (HW3.out.row.putLo lo))
  clear c2 f2 HW3
  generalize w3.setCell _ _ = x3 at *
  refine (readBits_yes g hi [] hhi K2 (by have := L3.out; omega) _ (Lib.hid (E3.out ▸ HX3.out.rd))).mono ?_
  rintro e w4 hy
  obtain ⟨rfl, HR4, HK4⟩ := Yes.rd hy
  have HW4 := Lib.hid (HX3.out.readO HR4.out HK4.out)
  clear hy HR4 HK4 HX3
  have c3 := HW4.out.row.c3
  have f3 := HW4.out.fz 38
  go_wp2_with fail
  have HX4 := Lib.hid (HW4.out.setAt 38 hi _ _ _ (HW4.out.row.putHi hi))
  clear c3 f3 HW4
  generalize w4.setCell _ _ = x4 at *
  refine wp_region_held_drew (S := SRv w g [] n (wd N) h lo hi) (by kernel_rfl) (HX4.out.below (Below.refl _ _).drew) (fun hHeld => ?_)
  refine wpAnyH_take (i := 0) (v := .pointer (some ⟨g, 0, none⟩)) rfl (by kernel_rfl) (by kernel_rfl) (by kernel_rfl) (fun _ _ _ h => h) (Or.inl ⟨by rfl, fun _ _ => rfl⟩) hHeld ?_
  try dsimp only
  try simp only [Act.put, List.getElem_toArray, List.getElem_cons_zero, List.getElem_cons_succ, List.setIfInBounds_toArray, List.set_cons_zero, List.set_cons_succ]
  refine wpAnyH_take (i := 1) (v := .pointer (some ⟨w.heap.size + 1, 1, none⟩)) rfl (by kernel_rfl) (by kernel_rfl) (by kernel_rfl) (fun _ _ _ h => h) (Or.inl ⟨by rfl, fun w _ => by first | rfl | go_simp⟩) hHeld ?_
  try dsimp only
  try simp only [Act.put, List.getElem_toArray, List.getElem_cons_zero, List.getElem_cons_succ, List.setIfInBounds_toArray, List.set_cons_zero, List.set_cons_succ]
  refine wpAnyH_take (i := 2) (v := .agg (P36 (wd N) h)) rfl (by kernel_rfl) (by kernel_rfl) (by kernel_rfl) (fun _ _ _ h => h) (yb_load_sum rfl (.tmp 17) rfl (w.heap.size + 1) rfl _ _ _ _ _ (fun w' hw => hw.row)) hHeld ?_
  try dsimp only
  try simp only [Act.put, List.getElem_toArray, List.getElem_cons_zero, List.getElem_cons_succ, List.setIfInBounds_toArray, List.set_cons_zero, List.set_cons_succ]
  refine wpAnyH_take (i := 4) (v := .pointer (some ⟨w.heap.size + 1, 0, none⟩)) rfl (by kernel_rfl) (by kernel_rfl) (by kernel_rfl) (fun _ _ _ h => h) (Or.inl ⟨by rfl, fun w _ => by first | rfl | go_simp⟩) hHeld ?_
  try dsimp only
  try simp only [Act.put, List.getElem_toArray, List.getElem_cons_zero, List.getElem_cons_succ, List.setIfInBounds_toArray, List.set_cons_zero, List.set_cons_succ]
  refine wpAnyH_take (i := 5) (v := .int .u64 (n : Int)) rfl (by kernel_rfl) (by kernel_rfl) (by kernel_rfl) (fun _ _ _ h => h) (yb_u64 rfl (.tmp 20) rfl (w.heap.size + 1) 0 rfl _ (fun w' hw => hw.row.c0)) hHeld ?_
  try dsimp only
  try simp only [Act.put, List.getElem_toArray, List.getElem_cons_zero, List.getElem_cons_succ, List.setIfInBounds_toArray, List.set_cons_zero, List.set_cons_succ]
  refine wpAnyH_take (i := 6) (v := .bool b) rfl (by kernel_rfl) (by kernel_rfl) (by kernel_rfl) (fun _ _ _ h => h) (yb_bin rfl .gtr _ _ _ _ rfl _ _ _ rfl rfl (fun _ => rfl) (fun w => b_gt64 HGT.out w)) hHeld ?_
  try dsimp only
  try simp only [Act.put, List.getElem_toArray, List.getElem_cons_zero, List.getElem_cons_succ, List.setIfInBounds_toArray, List.set_cons_zero, List.set_cons_succ]
  refine wpAnyH_ready (rs := [3]) (by kernel_rfl) (by simp) (AllReadyH.cons rfl (fun K hK => ?_) AllReadyH.nil)
  go_simp
  refine (HAN.out _).mono ?_
  rintro e w' ⟨rfl, hb⟩
  replace hHeld := hHeld.below hb
  refine hK.out _ _ hHeld (fun hHeld => ?_)
  clear hK K
  try dsimp only
  try simp only [Act.put, List.getElem_toArray, List.getElem_cons_zero, List.getElem_cons_succ, List.setIfInBounds_toArray, List.set_cons_zero, List.set_cons_succ]
  refine wpAnyH_take (i := 7) (v := .bool true) rfl (by kernel_rfl) (by kernel_rfl) (by kernel_rfl) (fun _ _ _ h => h) (yb_bin rfl .eql _ _ _ _ rfl _ _ _ rfl rfl (fun _ => rfl) (fun w => b_bool b w)) hHeld ?_
  try dsimp only
  try simp only [Act.put, List.getElem_toArray, List.getElem_cons_zero, List.getElem_cons_succ, List.setIfInBounds_toArray, List.set_cons_zero, List.set_cons_succ]
  refine wpAnyH_ready (rs := [8]) (by kernel_rfl) (by simp) (AllReadyH.cons rfl (fun K hK => ?_) AllReadyH.nil)
  go_simp
  refine (check_true _ _).mono ?_
  rintro e w' ⟨rfl, rfl⟩
  refine hK.out _ _ hHeld (fun hHeld => ?_)
  clear hK K
  try dsimp only
  try simp only [Act.put, List.getElem_toArray, List.getElem_cons_zero, List.getElem_cons_succ, List.setIfInBounds_toArray, List.set_cons_zero, List.set_cons_succ]
  refine wpAnyH_done (by kernel_rfl) ?_ _
  have HY := Lib.hid hHeld
  clear hHeld HX4
  generalize World.drew x4 = x5 at *
  have HE := Lib.hid HY.out.row
  have d0 := HY.out.row.c0
  have d2 := HY.out.row.c2
  have d3 := HY.out.row.c3
  by_cases h0 : n = 0
  · obtain ⟨z1, z2⟩ := HZ h0
    subst h0; subst z1; subst z2
    go_wp2_with (first
      | (go_at_call 66; (with_reducible refine (check_true _ _).mono ?_); rintro e w9 ⟨rfl, rfl⟩)
      | (refine wpList_load_row rfl 29 (.tmp 3) rfl (w.heap.size + 1) rfl _ _ (0, 0) _ HY.out.row uT rfl (iT _ _ _ _ _) ?_)
      | (refine wpList_store_row rfl 29 (.tmp 2) (.tmp 40) rfl w.heap.size _ rfl rfl _ _ HY.out.res (iT _ _ _ _ _) (by rw [T39_size, T39_size]) (one39 _ _ _ _ _) ?_))
    exact post_row 2 29 Try.results25 rfl w.heap.size 29 _ (0, 0) _ rfl (setRow_heap _ _ _ _ _ _ HY.out.res) uT rfl (iT _ _ _ _ _) ⟨rfl, HY.out.rd.highA (kept_setRow _ _ _) (fun k hk => by have := HY.out.lt; omega), HY.out.kept.trans ((kept_setRow _ _ _).mono fun k h => .inl (.inr (by omega)))⟩
  · have hpos : (0 : Int) < (n : Int) := by omega
    have hgt : decide ((0 : Int) < (n : Int)) = true := decide_eq_true hpos
    go_wp2_with (first
      | (go_at_call 66; (with_reducible refine (check_true _ _).mono ?_); rintro e w9 ⟨rfl, rfl⟩)
      | (refine wpList_load_row rfl 29 (.tmp 3) rfl (w.heap.size + 1) rfl _ _ (0, 0) _ HY.out.row uT rfl (iT _ _ _ _ _) ?_)
      | (refine wpList_store_row rfl 29 (.tmp 2) (.tmp 40) rfl w.heap.size _ rfl rfl _ _ HY.out.res (iT _ _ _ _ _) (by rw [T39_size, T39_size]) (one39 _ _ _ _ _) ?_))
    exact post_row 2 29 Try.results25 rfl w.heap.size 29 _ (0, 0) _ rfl (setRow_heap _ _ _ _ _ _ HY.out.res) uT rfl (iT _ _ _ _ _) ⟨rfl, HY.out.rd.highA (kept_setRow _ _ _) (fun k hk => by have := HY.out.lt; omega), HY.out.kept.trans ((kept_setRow _ _ _).mono fun k h => .inl (.inr (by omega)))⟩
end Go.Proofs.Ytljelocomjbanaa
