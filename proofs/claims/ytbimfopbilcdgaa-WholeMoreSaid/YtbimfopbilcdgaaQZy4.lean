/-
  Layer whole: the least and the greatest do not hang on the order; states joined (out of agg's texts).
-/
import Derived.Deep.RegionHeld
import Derived.Test.YtbimfopbilcdgaaQZy3
import Derived.Laws.AppendOwnNone
import Derived.Laws.OwnMore
import Derived.Maps.AppendAt
import Derived.OwnWalk
import Derived.OwnWalkIn
import Derived.Test.YtbimfopbilcdgaaQZy2
import Derived.Shelf.SlicesQ.Reverse
set_option linter.unusedSimpArgs false
set_option linter.unusedVariables false
set_option maxRecDepth 8000
namespace Go.Proofs.Ytbimfopbilcdgaa
open Go.RowKit Sm

theorem wpAnyH_more {P : Program} {ops : Array Oper} {Q : Exit → Act → World → Prop} {md : Region.Mode} {S S' : World → Prop} (h : ∀ w, S' w → S w) : ∀ {n : Nat} {listed : Array Bool} {a : Act} {w : World}, wpAnyH P md ops Q S' n listed a w → wpAnyH P md ops Q S n listed a w
  | 0, _, _, _, H => H
  | n + 1, _, _, _, H => ⟨H.1, fun i hi => wpOp_mono (fun _ _ h' => ⟨h _ h'.1, wpAnyH_more h h'.2⟩) (H.2 i hi)⟩
/-- The least of some numbers. -/
structure IsLo (l : List Nat) (c : Nat) : Prop where
  can : Fl.canon c = c
  mem : ∃ x ∈ l, c = Fl.canon x
  le : ∀ x ∈ l, Fl.rank c ≤ Fl.rank x
theorem IsLo.unique {l m : List Nat} {c d : Nat} (hl : ∀ x ∈ l, x < 18446744073709551616) (hm : ∀ x ∈ m, x < 18446744073709551616) (h : ∀ x, x ∈ l ↔ x ∈ m) (h1 : IsLo l c) (h2 : IsLo m d) : c = d := by
  obtain ⟨x, hx, ex⟩ := h1.mem
  obtain ⟨y, hy, ey⟩ := h2.mem
  have a1 := h1.le y ((h y).2 hy)
  have a2 := h2.le x ((h x).1 hx)
  have e1 : Fl.rank c = Fl.rank x := by rw [ex, Fl.rank_canon]
  have e2 : Fl.rank d = Fl.rank y := by rw [ey, Fl.rank_canon]
  have hr : Fl.rank x = Fl.rank y := by omega
  rw [ex, ey]
  exact (Fl.rank_inj x y (hl x hx) (hm y hy)).1 hr
theorem IsLo.join {l m : List Nat} {c d : Nat} (h1 : IsLo l c) (h2 : IsLo m d) : IsLo (l ++ m) (minC c d) := by
  have e : minC c d = if Fl.rank d < Fl.rank c then d else c := by
    rw [minC_eq, h1.can, h2.can]
    unfold Fl.minv
    split
    · rw [Fl.canon_canon, h2.can]
    · rw [Fl.canon_canon, h1.can]
  rw [e]
  by_cases h : Fl.rank d < Fl.rank c
  · rw [if_pos h]
    obtain ⟨y, hy, ey⟩ := h2.mem
    refine ⟨h2.can, ⟨y, by simp [hy], ey⟩, fun x hx => ?_⟩
    rcases List.mem_append.1 hx with hx | hx
    · have := h1.le x hx; omega
    · exact h2.le x hx
  · rw [if_neg h]
    obtain ⟨y, hy, ey⟩ := h1.mem
    refine ⟨h1.can, ⟨y, by simp [hy], ey⟩, fun x hx => ?_⟩
    rcases List.mem_append.1 hx with hx | hx
    · exact h1.le x hx
    · have := h2.le x hx; omega
theorem IsLo.one (b : Nat) : IsLo [b] (Fl.canon b) := ⟨Fl.canon_canon b, ⟨b, by simp, rfl⟩, fun x hx => by
  have : x = b := by simpa using hx
  subst this; rw [Fl.rank_canon]; exact Nat.le_refl _⟩
theorem accLo_is (l : List Nat) (h : l ≠ []) : IsLo l (accLo l) := by
  revert h
  refine list_snoc (p := fun l => l ≠ [] → IsLo l (accLo l)) (fun h => absurd rfl h) (fun l b ih _ => ?_) l
  by_cases h : l = []
  · subst h; rw [List.nil_append, accLo_one]; exact IsLo.one b
  · rw [accLo_snoc l b h, ← minC_canon]; exact (ih h).join (IsLo.one b)
theorem accLo_append (l m : List Nat) (hl : l ≠ []) (hm : m ≠ []) (h : ∀ x ∈ l ++ m, x < 18446744073709551616) : accLo (l ++ m) = minC (accLo l) (accLo m) :=
  IsLo.unique h h (fun _ => Iff.rfl) (accLo_is _ (by simp [hl])) ((accLo_is l hl).join (accLo_is m hm))
theorem accLo_nil : accLo [] = 0 := by unfold accLo; rfl
theorem accLo_perm {l m : List Nat} (hp : List.Perm l m) (h : ∀ x ∈ l, x < 18446744073709551616) : accLo l = accLo m := by
  by_cases e : l = []
  · subst e; rw [List.nil_perm.1 hp]
  · exact IsLo.unique h (fun x hx => h x (hp.mem_iff.2 hx)) (fun x => hp.mem_iff) (accLo_is l e) (accLo_is m (fun e2 => e (by subst e2; exact List.perm_nil.1 hp)))

/-- The greatest of some numbers. -/
structure IsHi (l : List Nat) (c : Nat) : Prop where
  can : Fl.canon c = c
  mem : ∃ x ∈ l, c = Fl.canon x
  le : ∀ x ∈ l, Fl.rank x ≤ Fl.rank c
theorem IsHi.unique {l m : List Nat} {c d : Nat} (hl : ∀ x ∈ l, x < 18446744073709551616) (hm : ∀ x ∈ m, x < 18446744073709551616) (h : ∀ x, x ∈ l ↔ x ∈ m) (h1 : IsHi l c) (h2 : IsHi m d) : c = d := by
  obtain ⟨x, hx, ex⟩ := h1.mem
  obtain ⟨y, hy, ey⟩ := h2.mem
  have a1 := h1.le y ((h y).2 hy)
  have a2 := h2.le x ((h x).1 hx)
  have e1 : Fl.rank c = Fl.rank x := by rw [ex, Fl.rank_canon]
  have e2 : Fl.rank d = Fl.rank y := by rw [ey, Fl.rank_canon]
  have hr : Fl.rank x = Fl.rank y := by omega
  rw [ex, ey]
  exact (Fl.rank_inj x y (hl x hx) (hm y hy)).1 hr
theorem IsHi.join {l m : List Nat} {c d : Nat} (h1 : IsHi l c) (h2 : IsHi m d) : IsHi (l ++ m) (maxC c d) := by
  have e : maxC c d = if Fl.rank c < Fl.rank d then d else c := by
    rw [maxC_eq, h1.can, h2.can]
    unfold Fl.maxv
    split
    · rw [Fl.canon_canon, h2.can]
    · rw [Fl.canon_canon, h1.can]
  rw [e]
  by_cases h : Fl.rank c < Fl.rank d
  · rw [if_pos h]
    obtain ⟨y, hy, ey⟩ := h2.mem
    refine ⟨h2.can, ⟨y, by simp [hy], ey⟩, fun x hx => ?_⟩
    rcases List.mem_append.1 hx with hx | hx
    · have := h1.le x hx; omega
    · exact h2.le x hx
  · rw [if_neg h]
    obtain ⟨y, hy, ey⟩ := h1.mem
    refine ⟨h1.can, ⟨y, by simp [hy], ey⟩, fun x hx => ?_⟩
    rcases List.mem_append.1 hx with hx | hx
    · exact h1.le x hx
    · have := h2.le x hx; omega
theorem IsHi.one (b : Nat) : IsHi [b] (Fl.canon b) := ⟨Fl.canon_canon b, ⟨b, by simp, rfl⟩, fun x hx => by
  have : x = b := by simpa using hx
  subst this; rw [Fl.rank_canon]; exact Nat.le_refl _⟩
theorem accHi_is (l : List Nat) (h : l ≠ []) : IsHi l (accHi l) := by
  revert h
  refine list_snoc (p := fun l => l ≠ [] → IsHi l (accHi l)) (fun h => absurd rfl h) (fun l b ih _ => ?_) l
  by_cases h : l = []
  · subst h; rw [List.nil_append, accHi_one]; exact IsHi.one b
  · rw [accHi_snoc l b h, ← maxC_canon]; exact (ih h).join (IsHi.one b)
theorem accHi_append (l m : List Nat) (hl : l ≠ []) (hm : m ≠ []) (h : ∀ x ∈ l ++ m, x < 18446744073709551616) : accHi (l ++ m) = maxC (accHi l) (accHi m) :=
  IsHi.unique h h (fun _ => Iff.rfl) (accHi_is _ (by simp [hl])) ((accHi_is l hl).join (accHi_is m hm))
theorem accHi_nil : accHi [] = 0 := by unfold accHi; rfl
theorem accHi_perm {l m : List Nat} (hp : List.Perm l m) (h : ∀ x ∈ l, x < 18446744073709551616) : accHi l = accHi m := by
  by_cases e : l = []
  · subst e; rw [List.nil_perm.1 hp]
  · exact IsHi.unique h (fun x hx => h x (hp.mem_iff.2 hx)) (fun x => hp.mem_iff) (accHi_is l e) (accHi_is m (fun e2 => e (by subst e2; exact List.perm_nil.1 hp)))

theorem joinTL (l m : List Nat) (hl : ∀ x ∈ l, x < 18446744073709551616) (hm : ∀ x ∈ m, x < 18446744073709551616) (hn : l.length + m.length < 1099511627776) (w : World) :
    Calls Try.prog 105 #[.agg (TL l), .agg (TL m)] w fun e w' => e = .returned (.agg (TL (l ++ m))) ∧ Below w.heap.size w w' := by
  have ha := anyH_acc l
  have hb := anyH_acc m
  unfold anyH at ha hb
  by_cases el : l = []
  · subst el
    refine (joinS_l _ _ _ _ _ _ _ _ _ _ ha w).mono ?_
    rintro e w' ⟨he, hbl⟩
    exact ⟨he, hbl⟩
  · have ht : (!l.isEmpty) = true := by cases l <;> simp_all
    rw [ht] at ha
    by_cases em : m = []
    · subst em
      refine (joinS_r _ _ _ _ _ _ _ _ _ _ ha hb w).mono ?_
      rintro e w' ⟨he, hbl⟩
      exact ⟨he.trans (by rw [List.append_nil]), hbl⟩
    · have ht2 : (!m.isEmpty) = true := by cases m <;> simp_all
      rw [ht2] at hb
      refine (joinS_b _ _ _ _ _ _ _ _ _ _ (by omega) (accLo_lt l hl) (accLo_lt m hm) (accHi_lt l hl) (accHi_lt m hm) (acc256 l) (acc256 m) ha hb w).mono ?_
      rintro e w' ⟨he, hbl⟩
      refine ⟨he.trans ?_, hbl⟩
      have hlm : ∀ x ∈ l ++ m, x < 18446744073709551616 := fun x hx => by
        rcases List.mem_append.1 hx with h | h
        · exact hl x h
        · exact hm x h
      unfold TL
      rw [List.length_append, accN_append, accH_append, accLo_append l m el em hlm, accHi_append l m el em hlm]
theorem TL_perm {l m : List Nat} (hp : List.Perm m l) (h : ∀ x ∈ l, x < 18446744073709551616) : TL m = TL l := by
  unfold TL
  rw [hp.length_eq, accN_perm hp, accH_perm hp, accLo_perm hp (fun x hx => h x (hp.mem_iff.1 hx)), accHi_perm hp (fun x hx => h x (hp.mem_iff.1 hx))]
end Go.Proofs.Ytbimfopbilcdgaa

set_option linter.unusedSimpArgs false
set_option linter.unusedVariables false
set_option maxRecDepth 8000
namespace Go.Proofs.Ytbimfopbilcdgaa
open Go.RowKit Go.Sort Sm

/-- A pane. -/
structure Pz where
  p : ZP
  t : Tel
def tz : Tel := ⟨0, 0, false, 0, 0⟩
instance : Inhabited Pz := ⟨⟨⟨ByteArray.empty, 0, 0⟩, tz⟩⟩
theorem bto {W w w' : World} (h : Below W.heap.size W w) (h' : Below w.heap.size w w') : Below W.heap.size W w' := h.trans (h'.mono h.size)

def Grp.cells (x : Grp) : List Value := .string x.p.key :: .int .i64 x.p.s :: .int .i64 x.p.e :: (TL x.vs).toList
theorem gr_len (x : Grp) : x.cells.length = 42 := by
  unfold Grp.cells; simp [T39_size]
theorem gr_one (x : Grp) : ∀ v ∈ x.cells, v.oneCell' = true := fun v hv => by
  unfold Grp.cells at hv
  rcases List.mem_cons.1 hv with rfl | hv
  · rfl
  rcases List.mem_cons.1 hv with rfl | hv
  · rfl
  rcases List.mem_cons.1 hv with rfl | hv
  · rfl
  have h := one39 x.vs.length (wd (accN x.vs)) (accH x.vs) (accLo x.vs) (accHi x.vs)
  rw [Array.all_eq_true_iff_forall_mem] at h
  exact h v (by simpa using hv)
def grs (l : List Grp) : List Value := l.flatMap Grp.cells
theorem grs_length (l : List Grp) : (grs l).length = l.length * 42 := by
  induction l with
  | nil => rfl
  | cons x r ih => unfold grs at *; rw [List.flatMap_cons, List.length_append, ih, gr_len, List.length_cons]; omega
theorem grs_one (l : List Grp) : ∀ v ∈ grs l, v.oneCell' = true := fun v hv => by
  obtain ⟨x, -, hx⟩ := List.mem_flatMap.1 hv
  exact gr_one x v hx
theorem grs_get (l : List Grp) (k j : Nat) (hj : j < 42) : (grs l)[k * 42 + j]? = (l[k]?).bind fun x => x.cells[j]? := by
  induction l generalizing k with
  | nil => simp [grs]
  | cons x r ih =>
    unfold grs at *
    rw [List.flatMap_cons]
    rcases k with _ | k
    · rw [List.getElem?_append_left (by rw [gr_len]; omega)]; simp
    · rw [List.getElem?_append_right (by rw [gr_len]; omega), gr_len, show (k + 1) * 42 + j - 42 = k * 42 + j by omega, ih]; simp
/-- A slice value that holds some of them, in a world. -/
def GrAt (w : World) (a : Option Addr) (l : List Grp) : Prop := ∀ (j : Nat) (v : Value), (grs l)[j]? = some v → ∃ g off, a = some ⟨g, off, none⟩ ∧ g < w.heap.size ∧ w.cell? ⟨g, off + j, none⟩ = some v
theorem GrAt.keep {w w' : World} {a : Option Addr} {l : List Grp} (h : GrAt w a l) (hb : Below w.heap.size w w') : GrAt w' a l := fun j v hv => by
  obtain ⟨g, off, h2, h3, h4⟩ := h j v hv
  exact ⟨g, off, h2, Nat.lt_of_lt_of_le h3 hb.size, (hb.cell (p := ⟨g, off + j, none⟩) h3).trans h4⟩
theorem GrAt.nil (w : World) (a : Option Addr) : GrAt w a [] := fun j v hv => by simp [grs] at hv
theorem infoGr : (Try.prog.info? 91).map (fun i => (i.zero, i.size, i.bytes)) = some (some (.agg #[.string ByteArray.empty, .int .i64 0, .int .i64 0, .int .u64 0, .int .u64 0, .int .u64 0, .int .u64 0, .int .u64 0, .int .u64 0, .int .u64 0, .int .u64 0, .int .u64 0, .int .u64 0, .int .u64 0, .int .u64 0, .int .u64 0, .int .u64 0, .int .u64 0, .int .u64 0, .int .u64 0, .int .u64 0, .int .u64 0, .int .u64 0, .int .u64 0, .int .u64 0, .int .u64 0, .int .u64 0, .int .u64 0, .int .u64 0, .int .u64 0, .int .u64 0, .int .u64 0, .int .u64 0, .int .u64 0, .int .u64 0, .int .u64 0, .int .u64 0, .int .u64 0, .int .u64 0, .int .u8 0, .int .u64 0, .int .u64 0]), 42, 344) := by kernel_rfl
/-- .. that a call owns. -/
def OwnGr (w : World) (B : Nat) (A : Option Addr) (n cap : Nat) (l : List Grp) : Prop := w.ownsRow B 91 42 (.slice A n cap) n (grs l)
theorem gr_roslice {w : World} {B n : Nat} {v : Value} {xs : List Value} (h : w.ownsRow B 91 42 v n xs) : ∃ A cap, v = .slice A n cap ∧ n ≤ cap ∧ cap ≤ maxLen ∧ (A = none → cap = 0) := by
  rcases h.2 with ⟨e0, e1⟩ | ⟨g, cap', cur, e0, -, -, h1, h2, -⟩
  · exact ⟨none, 0, by rw [e0, e1], by omega, Nat.zero_le _, fun _ => rfl⟩
  · exact ⟨_, _, e0, h1, h2, fun h => by cases h⟩
theorem gr_robase {w : World} {B n cap : Nat} {A : Option Addr} {l : List Grp} (h : OwnGr w B A n cap l) : ∀ k, (Value.slice A n cap).ownBlock = some k → B ≤ k := by
  intro k hk
  rcases h.2 with ⟨e0, e1⟩ | ⟨g, cap', cur, e0, hb, -⟩
  · rw [e0] at hk; cases hk
  · rw [e0] at hk; cases hk; exact hb
theorem gr_roaddr {w : World} {B n cap : Nat} {A : Option Addr} {l : List Grp} (h : OwnGr w B A n cap l) : A = none ∨ ∃ g, A = some ⟨g, 0, none⟩ := by
  rcases h.2 with ⟨e0, e1⟩ | ⟨g, cap', cur, e0, -⟩
  · injection e0 with e0; exact .inl e0
  · injection e0 with e0; exact .inr ⟨g, e0⟩
theorem OwnGr.len {w : World} {B n cap : Nat} {A : Option Addr} {l : List Grp} (h : OwnGr w B A n cap l) : n = l.length := by have := h.1; rw [grs_length] at this; omega
theorem OwnGr.nil (w : World) (B : Nat) : OwnGr w B none 0 0 [] := World.ownsRow_nil _ _ _ 42
theorem OwnGr.lt {w : World} {B n cap : Nat} {A : Option Addr} {l : List Grp} (h : OwnGr w B A n cap l) (g off : Nat) (hA : A = some ⟨g, off, none⟩) : g < w.heap.size ∧ B ≤ g ∧ off = 0 := by
  subst hA
  rcases h.2 with ⟨e0, e1⟩ | ⟨g', cap', cur, e0, hb, hg, -⟩
  · cases e0
  · cases e0; exact ⟨(Array.getElem?_eq_some_iff.1 hg).1, hb, rfl⟩
/-- append, the source nil, empty or not. -/
theorem wpList_append_gr {w : World} {ops : Array Oper} {rest : List Oper} {o : Oper} {ac : Act} {Q : Exit → Act → World → Prop} (hgd : o.guard = none) (s x : Operand)
    (ho : o.op = .call { callee := .builtin .append, args := #[s, x], argTypes := #[81, 81] })
    (B : Nat) (A : Option Addr) (n cap : Nat) (l : List Grp) (hs : ac.eval s = .slice A n cap) (hown : OwnGr w B A n cap l) (a : Option Addr) (m c : Nat) (l2 : List Grp) (hx : ac.eval x = .slice a m c) (hm : m = l2.length) (h2 : GrAt w a l2) (hnil : a = none → c = 0)
    (N : Nat) (hN : N = n + m) (hbytes : n + m ≤ 1000) (hbase : B ≤ w.heap.size)
    (h : ∀ A' cap' w', OwnGr w' B A' N cap' (l ++ l2) → N ≤ cap' → cap' ≤ maxLen → (A' = none → cap' = 0) → Below B w w' → (w.grownBy w' (Value.slice A n cap).ownBlock ∨ w' = w) → (A' = A ∨ (∃ g, A' = some ⟨g, 0, none⟩ ∧ w.heap.size ≤ g)) → wpList Try.prog ops Q rest (ac.put o.dst (.slice A' N cap')) w') : wpList Try.prog ops Q (o :: rest) ac w := by
  subst hN
  obtain ⟨i0, hi, hz0, hz1, hz2⟩ := info_parts infoGr
  rcases a with _ | ad
  · obtain rfl := hnil rfl
    have hl2 : l2 = [] := by
      rcases l2 with _ | ⟨x, r⟩
      · rfl
      · obtain ⟨g, off, e, -⟩ := h2 0 (.string x.p.key) rfl; cases e
    subst hl2
    have h0 : m = 0 := hm
    subst h0
    obtain ⟨A1, c1, e1, e2, e3, e4⟩ := gr_roslice hown
    injection e1 with b1 b2 b3
    subst b1; subst b3
    refine wpList_append_own_none hgd s x 81 ho B 91 i0 42 Try.underlying81 hi (.slice A n cap) n (grs l) hs hown hx ?_
    exact h A cap w (by rw [List.append_nil]; exact hown) e2 e3 e4 (Below.refl _ _) (.inr rfl) (.inl rfl)
  · refine wpList_append_own_at w hgd s x 81 ho B 91 i0 _ 42 344 Try.underlying81 hi hz0 hz1 hz2 rfl (by decide) (.slice A n cap) n (grs l) hs hown ad m c (grs l2) hx (by rw [grs_length, hm]) (fun j u hu => by
      obtain ⟨g', off', e, -, hc⟩ := h2 j u hu
      injection e with e; subst e
      rw [Addr.add_lit]; exact hc) (grs_one l2) (by unfold maxLen; omega) (by omega) hbase ?_
    intro v' w2 hown2 hgr _ hloc
    have e : grs l ++ grs l2 = grs (l ++ l2) := by unfold grs; rw [List.flatMap_append]
    rw [e] at hown2
    obtain ⟨A1, c1, rfl, e2, e3, e4⟩ := gr_roslice hown2
    refine h A1 c1 w2 hown2 e2 e3 e4 ((Below.refl _ w).grown hgr hbase (gr_robase hown)) (.inl hgr) ?_
    have a1 := gr_roaddr hown2
    have a2 := gr_roaddr hown
    rcases a1 with rfl | ⟨g1, rfl⟩ <;> rcases a2 with rfl | ⟨g2, rfl⟩
    · exact .inl rfl
    · rcases hloc with hloc | hloc <;> cases hloc
    · rcases hloc with hloc | hloc
      · cases hloc
      · injection hloc with hloc
        exact .inr ⟨g1, rfl, Nat.le_of_eq (by simpa using hloc.symm)⟩
    · rcases hloc with hloc | hloc
      · injection hloc with hloc
        have : g1 = g2 := hloc
        rw [this]; exact .inl rfl
      · injection hloc with hloc
        exact .inr ⟨g1, rfl, Nat.le_of_eq (by simpa using hloc.symm)⟩
theorem grs_take (l : List Grp) (k j : Nat) (v : Value) (h : (grs (l.take k))[j]? = some v) : (grs l)[j]? = some v := by
  have e : grs l = grs (l.take k) ++ grs (l.drop k) := by unfold grs; rw [← List.flatMap_append, List.take_append_drop]
  rw [e, List.getElem?_append_left (List.getElem?_eq_some_iff.1 h).1, h]
theorem grs_drop (l : List Grp) (k : Nat) (hk : k ≤ l.length) (j : Nat) : (grs (l.drop k))[j]? = (grs l)[k * 42 + j]? := by
  have e : grs l = grs (l.take k) ++ grs (l.drop k) := by unfold grs; rw [← List.flatMap_append, List.take_append_drop]
  have hl : (grs (l.take k)).length = k * 42 := by rw [grs_length, List.length_take, Nat.min_eq_left hk]
  rw [e, List.getElem?_append_right (by omega), hl, Nat.add_sub_cancel_left]
theorem OwnGr.at' {w : World} {B n cap : Nat} {A : Option Addr} {l : List Grp} (h : OwnGr w B A n cap l) : GrAt w A l := fun j v hv => by
  have hjl := (List.getElem?_eq_some_iff.1 hv).1
  rcases h.2 with ⟨e0, e1⟩ | ⟨g, cap', cur, e0, hb, hg, hn, hm, hs, ht⟩
  · have := h.1; rw [e1, Nat.zero_mul] at this; omega
  · injection e0 with a1 a2 a3
    subst a1
    refine ⟨g, 0, rfl, (Array.getElem?_eq_some_iff.1 hg).1, ?_⟩
    rw [cell_of_row _ _ _ _ _ _ hg, Nat.zero_add, ← Array.getElem?_toList]
    have := h.1
    rw [← ht, List.getElem?_take] at hv
    rw [if_pos (by omega)] at hv
    exact hv
theorem grr {w : World} {A : Option Addr} {l : List Grp} (h : GrAt w A l) (i : Nat) (x : Grp) (hx : l[i]? = some x) : ∃ g off, A = some ⟨g, off, none⟩ ∧ g < w.heap.size ∧ w.rangeAt g (off + i * 42) x.cells := by
  have h0 : (grs l)[i * 42 + 0]? = x.cells[0]? := by rw [grs_get l i 0 (by decide), hx]; rfl
  obtain ⟨g, off, e, hg, -⟩ := h (i * 42 + 0) (.string x.p.key) (by rw [h0]; rfl)
  refine ⟨g, off, e, hg, fun j v hv => ?_⟩
  have hj : j < 42 := by have h9 := (List.getElem?_eq_some_iff.1 hv).1; rw [gr_len] at h9; exact h9
  have h1 : (grs l)[i * 42 + j]? = some v := by rw [grs_get l i j hj, hx]; exact hv
  obtain ⟨g', off', e', -, hc⟩ := h _ _ h1
  rw [e] at e'; injection e' with e'; injection e' with b1 b2; subst b1; subst b2
  rw [Nat.add_assoc]; exact hc
theorem grkeep {w w' : World} {g o : Nat} {x : Grp} (h : w.rangeAt g o x.cells) (hg : g < w.heap.size) (hb : Below w.heap.size w w') : w'.rangeAt g o x.cells := fun j v hv => (hb.cell (p := ⟨g, o + j, none⟩) hg).trans (h j v hv)
theorem OwnGr.less {w : World} {B B' n cap : Nat} {A : Option Addr} {l : List Grp} (h : OwnGr w B A n cap l) (hB : B' ≤ B) : OwnGr w B' A n cap l := by
  refine ⟨h.1, ?_⟩
  rcases h.2 with h1 | ⟨g, cap', cur, h1, hb, h2⟩
  · exact .inl h1
  · exact .inr ⟨g, cap', cur, h1, Nat.le_trans hB hb, h2⟩
theorem OwnGr.below {w w' : World} {B B' n cap : Nat} {A : Option Addr} {l : List Grp} (h : OwnGr w B A n cap l) (hb : Below B' w w') (hA : ∀ g off, A = some ⟨g, off, none⟩ → g < B') : OwnGr w' B A n cap l := by
  refine ⟨h.1, ?_⟩
  rcases h.2 with h1 | ⟨g, cap', cur, h1, hb1, h2, h3⟩
  · exact .inl h1
  · injection h1 with a1 a2 a3
    subst a1; subst a3
    exact .inr ⟨g, cap, cur, rfl, hb1, (hb.block g (hA g 0 rfl)).trans h2, h3⟩
theorem OwnGr.same {w w' : World} {B n cap : Nat} {A : Option Addr} {l : List Grp} (h : OwnGr w B A n cap l) (hA : ∀ g off, A = some ⟨g, off, none⟩ → w'.heap[g]? = w.heap[g]?) : OwnGr w' B A n cap l := by
  refine ⟨h.1, ?_⟩
  rcases h.2 with h1 | ⟨g, cap', cur, h1, hb1, h2, h3⟩
  · exact .inl h1
  · injection h1 with a1 a2 a3
    subst a1; subst a3
    exact .inr ⟨g, cap, cur, rfl, hb1, (hA g 0 rfl).trans h2, h3⟩
theorem grAt_new (w : World) (l : List Grp) (cs : Array Value) (hcs : cs.toList = grs l) (t : TypeId) : GrAt (w.alloc (.cells cs t)) (some ⟨w.heap.size, 0, none⟩) l := fun j v hv => by
  refine ⟨w.heap.size, 0, rfl, by simp, ?_⟩
  rw [Nat.zero_add, cell_of_row _ _ _ _ _ _ (heap_new w _), ← Array.getElem?_toList, hcs]; exact hv
theorem grcut_from (a : Option Addr) (len cap k : Nat) (hk : k ≤ len) (hc : len ≤ cap) (hnil : a = none → cap = 0) :
    ∃ A C, (∀ w, (Instr.slice 81 (.slice a len cap) (some (.int .i64 (k : Int))) none none).run Try.prog w = .ok (.slice A (len - k) C) w) ∧ (A = none → C = 0) ∧ len - k ≤ C ∧ ∀ w l, len = l.length → GrAt w a l → GrAt w A (l.drop k) := by
  refine ⟨if cap = k then a else a.map (·.add (k * 42)), cap - k, fun w => ?_, fun h => ?_, by omega, fun w l hl h j x hx => ?_⟩
  · rw [run_slice_l w 81 a len cap Try.underlying81 .i64 (k : Int) (by omega) (by omega)]
    rw [show (Go.sizeOf (Try.prog.elem 81)).run Try.prog w = .ok 42 w from by kernel_rfl]
    simp [Result.andThen, sliced]
  · split at h
    · omega
    · rcases a with _ | a
      · have := hnil rfl; omega
      · cases h
  · have hkl : k < l.length := by
      have := (List.getElem?_eq_some_iff.1 hx).1
      rw [grs_length, List.length_drop] at this; omega
    rw [grs_drop l k (by omega)] at hx
    obtain ⟨g, off, rfl, hg, hcell⟩ := h _ _ hx
    rw [if_neg (by omega)]
    exact ⟨g, off + k * 42, by simp [Addr.add_lit], hg, by rw [Nat.add_assoc]; exact hcell⟩
theorem grcut_to (a : Option Addr) (len cap k : Nat) (hk : k ≤ len) (hc : len ≤ cap) (hnil : a = none → cap = 0) :
    ∃ A, (∀ w, (Instr.slice 81 (.slice a len cap) none (some (.int .i64 (k : Int))) none).run Try.prog w = .ok (.slice A k cap) w) ∧ (A = none → cap = 0) ∧ ∀ w l, len = l.length → GrAt w a l → GrAt w A (l.take k) := by
  refine ⟨if cap = 0 then a else a.map (·.add 0), fun w => ?_, fun h => ?_, fun w l hl h j x hx => ?_⟩
  · rw [run_slice_h w 81 a len cap Try.underlying81 .i64 (k : Int) (by omega) (by omega)]
    rw [show (Go.sizeOf (Try.prog.elem 81)).run Try.prog w = .ok 42 w from by kernel_rfl]
    simp [Result.andThen, sliced]
  · split at h
    · omega
    · rcases a with _ | a
      · have := hnil rfl; omega
      · cases h
  · obtain ⟨g, off, rfl, hg, hcell⟩ := h _ _ (grs_take l k j x hx)
    exact ⟨g, off, by simp [Addr.add_lit], hg, hcell⟩

def Wd.cells (x : Wd) : List Value := [.int .i64 x.s, .int .i64 x.e]
theorem wn_len (x : Wd) : x.cells.length = 2 := rfl
theorem wn_one (x : Wd) : ∀ v ∈ x.cells, v.oneCell' = true := fun v hv => by
  simp only [Wd.cells, List.mem_cons, List.not_mem_nil, or_false] at hv
  rcases hv with rfl | rfl <;> rfl
def wns (l : List Wd) : List Value := l.flatMap Wd.cells
theorem wns_length (l : List Wd) : (wns l).length = l.length * 2 := by
  induction l with
  | nil => rfl
  | cons x r ih => unfold wns at *; rw [List.flatMap_cons, List.length_append, ih, wn_len, List.length_cons]; omega
theorem wns_one (l : List Wd) : ∀ v ∈ wns l, v.oneCell' = true := fun v hv => by
  obtain ⟨x, -, hx⟩ := List.mem_flatMap.1 hv
  exact wn_one x v hx
theorem wns_get (l : List Wd) (k j : Nat) (hj : j < 2) : (wns l)[k * 2 + j]? = (l[k]?).bind fun x => x.cells[j]? := by
  induction l generalizing k with
  | nil => simp [wns]
  | cons x r ih =>
    unfold wns at *
    rw [List.flatMap_cons]
    rcases k with _ | k
    · rw [List.getElem?_append_left (by rw [wn_len]; omega)]; simp
    · rw [List.getElem?_append_right (by rw [wn_len]; omega), wn_len, show (k + 1) * 2 + j - 2 = k * 2 + j by omega, ih]; simp
/-- A slice value that holds some of them, in a world. -/
def WnAt (w : World) (a : Option Addr) (l : List Wd) : Prop := ∀ (j : Nat) (v : Value), (wns l)[j]? = some v → ∃ g off, a = some ⟨g, off, none⟩ ∧ g < w.heap.size ∧ w.cell? ⟨g, off + j, none⟩ = some v
theorem WnAt.keep {w w' : World} {a : Option Addr} {l : List Wd} (h : WnAt w a l) (hb : Below w.heap.size w w') : WnAt w' a l := fun j v hv => by
  obtain ⟨g, off, h2, h3, h4⟩ := h j v hv
  exact ⟨g, off, h2, Nat.lt_of_lt_of_le h3 hb.size, (hb.cell (p := ⟨g, off + j, none⟩) h3).trans h4⟩
theorem WnAt.nil (w : World) (a : Option Addr) : WnAt w a [] := fun j v hv => by simp [wns] at hv
theorem infoWn : (Try.prog.info? 84).map (fun i => (i.zero, i.size, i.bytes)) = some (some (.agg #[.int .i64 0, .int .i64 0]), 2, 16) := by kernel_rfl
/-- .. that a call owns. -/
def OwnWn (w : World) (B : Nat) (A : Option Addr) (n cap : Nat) (l : List Wd) : Prop := w.ownsRow B 84 2 (.slice A n cap) n (wns l)
theorem wn_roslice {w : World} {B n : Nat} {v : Value} {xs : List Value} (h : w.ownsRow B 84 2 v n xs) : ∃ A cap, v = .slice A n cap ∧ n ≤ cap ∧ cap ≤ maxLen ∧ (A = none → cap = 0) := by
  rcases h.2 with ⟨e0, e1⟩ | ⟨g, cap', cur, e0, -, -, h1, h2, -⟩
  · exact ⟨none, 0, by rw [e0, e1], by omega, Nat.zero_le _, fun _ => rfl⟩
  · exact ⟨_, _, e0, h1, h2, fun h => by cases h⟩
theorem wn_robase {w : World} {B n cap : Nat} {A : Option Addr} {l : List Wd} (h : OwnWn w B A n cap l) : ∀ k, (Value.slice A n cap).ownBlock = some k → B ≤ k := by
  intro k hk
  rcases h.2 with ⟨e0, e1⟩ | ⟨g, cap', cur, e0, hb, -⟩
  · rw [e0] at hk; cases hk
  · rw [e0] at hk; cases hk; exact hb
theorem wn_roaddr {w : World} {B n cap : Nat} {A : Option Addr} {l : List Wd} (h : OwnWn w B A n cap l) : A = none ∨ ∃ g, A = some ⟨g, 0, none⟩ := by
  rcases h.2 with ⟨e0, e1⟩ | ⟨g, cap', cur, e0, -⟩
  · injection e0 with e0; exact .inl e0
  · injection e0 with e0; exact .inr ⟨g, e0⟩
theorem OwnWn.len {w : World} {B n cap : Nat} {A : Option Addr} {l : List Wd} (h : OwnWn w B A n cap l) : n = l.length := by have := h.1; rw [wns_length] at this; omega
theorem OwnWn.nil (w : World) (B : Nat) : OwnWn w B none 0 0 [] := World.ownsRow_nil _ _ _ 2
theorem OwnWn.lt {w : World} {B n cap : Nat} {A : Option Addr} {l : List Wd} (h : OwnWn w B A n cap l) (g off : Nat) (hA : A = some ⟨g, off, none⟩) : g < w.heap.size ∧ B ≤ g ∧ off = 0 := by
  subst hA
  rcases h.2 with ⟨e0, e1⟩ | ⟨g', cap', cur, e0, hb, hg, -⟩
  · cases e0
  · cases e0; exact ⟨(Array.getElem?_eq_some_iff.1 hg).1, hb, rfl⟩
/-- append, the source nil, empty or not. -/
theorem wpList_append_wn {w : World} {ops : Array Oper} {rest : List Oper} {o : Oper} {ac : Act} {Q : Exit → Act → World → Prop} (hgd : o.guard = none) (s x : Operand)
    (ho : o.op = .call { callee := .builtin .append, args := #[s, x], argTypes := #[79, 79] })
    (B : Nat) (A : Option Addr) (n cap : Nat) (l : List Wd) (hs : ac.eval s = .slice A n cap) (hown : OwnWn w B A n cap l) (a : Option Addr) (m c : Nat) (l2 : List Wd) (hx : ac.eval x = .slice a m c) (hm : m = l2.length) (h2 : WnAt w a l2) (hnil : a = none → c = 0)
    (N : Nat) (hN : N = n + m) (hbytes : n + m ≤ 1000) (hbase : B ≤ w.heap.size)
    (h : ∀ A' cap' w', OwnWn w' B A' N cap' (l ++ l2) → N ≤ cap' → cap' ≤ maxLen → (A' = none → cap' = 0) → Below B w w' → (w.grownBy w' (Value.slice A n cap).ownBlock ∨ w' = w) → (A' = A ∨ (∃ g, A' = some ⟨g, 0, none⟩ ∧ w.heap.size ≤ g)) → wpList Try.prog ops Q rest (ac.put o.dst (.slice A' N cap')) w') : wpList Try.prog ops Q (o :: rest) ac w := by
  subst hN
  obtain ⟨i0, hi, hz0, hz1, hz2⟩ := info_parts infoWn
  rcases a with _ | ad
  · obtain rfl := hnil rfl
    have hl2 : l2 = [] := by
      rcases l2 with _ | ⟨x, r⟩
      · rfl
      · obtain ⟨g, off, e, -⟩ := h2 0 (.int .i64 x.s) rfl; cases e
    subst hl2
    have h0 : m = 0 := hm
    subst h0
    obtain ⟨A1, c1, e1, e2, e3, e4⟩ := wn_roslice hown
    injection e1 with b1 b2 b3
    subst b1; subst b3
    refine wpList_append_own_none hgd s x 79 ho B 84 i0 2 Try.underlying79 hi (.slice A n cap) n (wns l) hs hown hx ?_
    exact h A cap w (by rw [List.append_nil]; exact hown) e2 e3 e4 (Below.refl _ _) (.inr rfl) (.inl rfl)
  · refine wpList_append_own_at w hgd s x 79 ho B 84 i0 _ 2 16 Try.underlying79 hi hz0 hz1 hz2 rfl (by decide) (.slice A n cap) n (wns l) hs hown ad m c (wns l2) hx (by rw [wns_length, hm]) (fun j u hu => by
      obtain ⟨g', off', e, -, hc⟩ := h2 j u hu
      injection e with e; subst e
      rw [Addr.add_lit]; exact hc) (wns_one l2) (by unfold maxLen; omega) (by omega) hbase ?_
    intro v' w2 hown2 hgr _ hloc
    have e : wns l ++ wns l2 = wns (l ++ l2) := by unfold wns; rw [List.flatMap_append]
    rw [e] at hown2
    obtain ⟨A1, c1, rfl, e2, e3, e4⟩ := wn_roslice hown2
    refine h A1 c1 w2 hown2 e2 e3 e4 ((Below.refl _ w).grown hgr hbase (wn_robase hown)) (.inl hgr) ?_
    have a1 := wn_roaddr hown2
    have a2 := wn_roaddr hown
    rcases a1 with rfl | ⟨g1, rfl⟩ <;> rcases a2 with rfl | ⟨g2, rfl⟩
    · exact .inl rfl
    · rcases hloc with hloc | hloc <;> cases hloc
    · rcases hloc with hloc | hloc
      · cases hloc
      · injection hloc with hloc
        exact .inr ⟨g1, rfl, Nat.le_of_eq (by simpa using hloc.symm)⟩
    · rcases hloc with hloc | hloc
      · injection hloc with hloc
        have : g1 = g2 := hloc
        rw [this]; exact .inl rfl
      · injection hloc with hloc
        exact .inr ⟨g1, rfl, Nat.le_of_eq (by simpa using hloc.symm)⟩
theorem wns_take (l : List Wd) (k j : Nat) (v : Value) (h : (wns (l.take k))[j]? = some v) : (wns l)[j]? = some v := by
  have e : wns l = wns (l.take k) ++ wns (l.drop k) := by unfold wns; rw [← List.flatMap_append, List.take_append_drop]
  rw [e, List.getElem?_append_left (List.getElem?_eq_some_iff.1 h).1, h]
theorem wns_drop (l : List Wd) (k : Nat) (hk : k ≤ l.length) (j : Nat) : (wns (l.drop k))[j]? = (wns l)[k * 2 + j]? := by
  have e : wns l = wns (l.take k) ++ wns (l.drop k) := by unfold wns; rw [← List.flatMap_append, List.take_append_drop]
  have hl : (wns (l.take k)).length = k * 2 := by rw [wns_length, List.length_take, Nat.min_eq_left hk]
  rw [e, List.getElem?_append_right (by omega), hl, Nat.add_sub_cancel_left]
theorem OwnWn.at' {w : World} {B n cap : Nat} {A : Option Addr} {l : List Wd} (h : OwnWn w B A n cap l) : WnAt w A l := fun j v hv => by
  have hjl := (List.getElem?_eq_some_iff.1 hv).1
  rcases h.2 with ⟨e0, e1⟩ | ⟨g, cap', cur, e0, hb, hg, hn, hm, hs, ht⟩
  · have := h.1; rw [e1, Nat.zero_mul] at this; omega
  · injection e0 with a1 a2 a3
    subst a1
    refine ⟨g, 0, rfl, (Array.getElem?_eq_some_iff.1 hg).1, ?_⟩
    rw [cell_of_row _ _ _ _ _ _ hg, Nat.zero_add, ← Array.getElem?_toList]
    have := h.1
    rw [← ht, List.getElem?_take] at hv
    rw [if_pos (by omega)] at hv
    exact hv
theorem wnr {w : World} {A : Option Addr} {l : List Wd} (h : WnAt w A l) (i : Nat) (x : Wd) (hx : l[i]? = some x) : ∃ g off, A = some ⟨g, off, none⟩ ∧ g < w.heap.size ∧ w.rangeAt g (off + i * 2) x.cells := by
  have h0 : (wns l)[i * 2 + 0]? = x.cells[0]? := by rw [wns_get l i 0 (by decide), hx]; rfl
  obtain ⟨g, off, e, hg, -⟩ := h (i * 2 + 0) (.int .i64 x.s) (by rw [h0]; rfl)
  refine ⟨g, off, e, hg, fun j v hv => ?_⟩
  have hj : j < 2 := (List.getElem?_eq_some_iff.1 hv).1
  have h1 : (wns l)[i * 2 + j]? = some v := by rw [wns_get l i j hj, hx]; exact hv
  obtain ⟨g', off', e', -, hc⟩ := h _ _ h1
  rw [e] at e'; injection e' with e'; injection e' with b1 b2; subst b1; subst b2
  rw [Nat.add_assoc]; exact hc
theorem wnkeep {w w' : World} {g o : Nat} {x : Wd} (h : w.rangeAt g o x.cells) (hg : g < w.heap.size) (hb : Below w.heap.size w w') : w'.rangeAt g o x.cells := fun j v hv => (hb.cell (p := ⟨g, o + j, none⟩) hg).trans (h j v hv)
theorem OwnWn.less {w : World} {B B' n cap : Nat} {A : Option Addr} {l : List Wd} (h : OwnWn w B A n cap l) (hB : B' ≤ B) : OwnWn w B' A n cap l := by
  refine ⟨h.1, ?_⟩
  rcases h.2 with h1 | ⟨g, cap', cur, h1, hb, h2⟩
  · exact .inl h1
  · exact .inr ⟨g, cap', cur, h1, Nat.le_trans hB hb, h2⟩
theorem OwnWn.below {w w' : World} {B B' n cap : Nat} {A : Option Addr} {l : List Wd} (h : OwnWn w B A n cap l) (hb : Below B' w w') (hA : ∀ g off, A = some ⟨g, off, none⟩ → g < B') : OwnWn w' B A n cap l := by
  refine ⟨h.1, ?_⟩
  rcases h.2 with h1 | ⟨g, cap', cur, h1, hb1, h2, h3⟩
  · exact .inl h1
  · injection h1 with a1 a2 a3
    subst a1; subst a3
    exact .inr ⟨g, cap, cur, rfl, hb1, (hb.block g (hA g 0 rfl)).trans h2, h3⟩
theorem OwnWn.same {w w' : World} {B n cap : Nat} {A : Option Addr} {l : List Wd} (h : OwnWn w B A n cap l) (hA : ∀ g off, A = some ⟨g, off, none⟩ → w'.heap[g]? = w.heap[g]?) : OwnWn w' B A n cap l := by
  refine ⟨h.1, ?_⟩
  rcases h.2 with h1 | ⟨g, cap', cur, h1, hb1, h2, h3⟩
  · exact .inl h1
  · injection h1 with a1 a2 a3
    subst a1; subst a3
    exact .inr ⟨g, cap, cur, rfl, hb1, (hA g 0 rfl).trans h2, h3⟩
theorem wnAt_new (w : World) (l : List Wd) (cs : Array Value) (hcs : cs.toList = wns l) (t : TypeId) : WnAt (w.alloc (.cells cs t)) (some ⟨w.heap.size, 0, none⟩) l := fun j v hv => by
  refine ⟨w.heap.size, 0, rfl, by simp, ?_⟩
  rw [Nat.zero_add, cell_of_row _ _ _ _ _ _ (heap_new w _), ← Array.getElem?_toList, hcs]; exact hv
theorem wncut_from (a : Option Addr) (len cap k : Nat) (hk : k ≤ len) (hc : len ≤ cap) (hnil : a = none → cap = 0) :
    ∃ A C, (∀ w, (Instr.slice 79 (.slice a len cap) (some (.int .i64 (k : Int))) none none).run Try.prog w = .ok (.slice A (len - k) C) w) ∧ (A = none → C = 0) ∧ len - k ≤ C ∧ ∀ w l, len = l.length → WnAt w a l → WnAt w A (l.drop k) := by
  refine ⟨if cap = k then a else a.map (·.add (k * 2)), cap - k, fun w => ?_, fun h => ?_, by omega, fun w l hl h j x hx => ?_⟩
  · rw [run_slice_l w 79 a len cap Try.underlying79 .i64 (k : Int) (by omega) (by omega)]
    rw [show (Go.sizeOf (Try.prog.elem 79)).run Try.prog w = .ok 2 w from by kernel_rfl]
    simp [Result.andThen, sliced]
  · split at h
    · omega
    · rcases a with _ | a
      · have := hnil rfl; omega
      · cases h
  · have hkl : k < l.length := by
      have := (List.getElem?_eq_some_iff.1 hx).1
      rw [wns_length, List.length_drop] at this; omega
    rw [wns_drop l k (by omega)] at hx
    obtain ⟨g, off, rfl, hg, hcell⟩ := h _ _ hx
    rw [if_neg (by omega)]
    exact ⟨g, off + k * 2, by simp [Addr.add_lit], hg, by rw [Nat.add_assoc]; exact hcell⟩
theorem wncut_to (a : Option Addr) (len cap k : Nat) (hk : k ≤ len) (hc : len ≤ cap) (hnil : a = none → cap = 0) :
    ∃ A, (∀ w, (Instr.slice 79 (.slice a len cap) none (some (.int .i64 (k : Int))) none).run Try.prog w = .ok (.slice A k cap) w) ∧ (A = none → cap = 0) ∧ ∀ w l, len = l.length → WnAt w a l → WnAt w A (l.take k) := by
  refine ⟨if cap = 0 then a else a.map (·.add 0), fun w => ?_, fun h => ?_, fun w l hl h j x hx => ?_⟩
  · rw [run_slice_h w 79 a len cap Try.underlying79 .i64 (k : Int) (by omega) (by omega)]
    rw [show (Go.sizeOf (Try.prog.elem 79)).run Try.prog w = .ok 2 w from by kernel_rfl]
    simp [Result.andThen, sliced]
  · split at h
    · omega
    · rcases a with _ | a
      · have := hnil rfl; omega
      · cases h
  · obtain ⟨g, off, rfl, hg, hcell⟩ := h _ _ (wns_take l k j x hx)
    exact ⟨g, off, by simp [Addr.add_lit], hg, hcell⟩

def Pz.cells (x : Pz) : List Value := [.string x.p.key, .int .i64 x.p.s, .int .i64 x.p.e, .int .u64 (x.t.c : Int), .float .f64 x.t.s, .bool x.t.o, .float .f64 x.t.lo, .float .f64 x.t.hi]
theorem pz_len (x : Pz) : x.cells.length = 8 := rfl
theorem pz_one (x : Pz) : ∀ v ∈ x.cells, v.oneCell' = true := fun v hv => by
  simp only [Pz.cells, List.mem_cons, List.not_mem_nil, or_false] at hv
  rcases hv with rfl | rfl | rfl | rfl | rfl | rfl | rfl | rfl <;> rfl
def pzs (l : List Pz) : List Value := l.flatMap Pz.cells
theorem pzs_length (l : List Pz) : (pzs l).length = l.length * 8 := by
  induction l with
  | nil => rfl
  | cons x r ih => unfold pzs at *; rw [List.flatMap_cons, List.length_append, ih, pz_len, List.length_cons]; omega
theorem pzs_one (l : List Pz) : ∀ v ∈ pzs l, v.oneCell' = true := fun v hv => by
  obtain ⟨x, -, hx⟩ := List.mem_flatMap.1 hv
  exact pz_one x v hx
theorem pzs_get (l : List Pz) (k j : Nat) (hj : j < 8) : (pzs l)[k * 8 + j]? = (l[k]?).bind fun x => x.cells[j]? := by
  induction l generalizing k with
  | nil => simp [pzs]
  | cons x r ih =>
    unfold pzs at *
    rw [List.flatMap_cons]
    rcases k with _ | k
    · rw [List.getElem?_append_left (by rw [pz_len]; omega)]; simp
    · rw [List.getElem?_append_right (by rw [pz_len]; omega), pz_len, show (k + 1) * 8 + j - 8 = k * 8 + j by omega, ih]; simp
/-- A slice value that holds some of them, in a world. -/
def PzAt (w : World) (a : Option Addr) (l : List Pz) : Prop := ∀ (j : Nat) (v : Value), (pzs l)[j]? = some v → ∃ g off, a = some ⟨g, off, none⟩ ∧ g < w.heap.size ∧ w.cell? ⟨g, off + j, none⟩ = some v
theorem PzAt.keep {w w' : World} {a : Option Addr} {l : List Pz} (h : PzAt w a l) (hb : Below w.heap.size w w') : PzAt w' a l := fun j v hv => by
  obtain ⟨g, off, h2, h3, h4⟩ := h j v hv
  exact ⟨g, off, h2, Nat.lt_of_lt_of_le h3 hb.size, (hb.cell (p := ⟨g, off + j, none⟩) h3).trans h4⟩
theorem PzAt.nil (w : World) (a : Option Addr) : PzAt w a [] := fun j v hv => by simp [pzs] at hv
theorem infoPz : (Try.prog.info? 97).map (fun i => (i.zero, i.size, i.bytes)) = some (some (.agg #[.string ByteArray.empty, .int .i64 0, .int .i64 0, .int .u64 0, .float .f64 0, .bool false, .float .f64 0, .float .f64 0]), 8, 72) := by kernel_rfl
/-- .. that a call owns. -/
def OwnPz (w : World) (B : Nat) (A : Option Addr) (n cap : Nat) (l : List Pz) : Prop := w.ownsRow B 97 8 (.slice A n cap) n (pzs l)
theorem pz_roslice {w : World} {B n : Nat} {v : Value} {xs : List Value} (h : w.ownsRow B 97 8 v n xs) : ∃ A cap, v = .slice A n cap ∧ n ≤ cap ∧ cap ≤ maxLen ∧ (A = none → cap = 0) := by
  rcases h.2 with ⟨e0, e1⟩ | ⟨g, cap', cur, e0, -, -, h1, h2, -⟩
  · exact ⟨none, 0, by rw [e0, e1], by omega, Nat.zero_le _, fun _ => rfl⟩
  · exact ⟨_, _, e0, h1, h2, fun h => by cases h⟩
theorem pz_robase {w : World} {B n cap : Nat} {A : Option Addr} {l : List Pz} (h : OwnPz w B A n cap l) : ∀ k, (Value.slice A n cap).ownBlock = some k → B ≤ k := by
  intro k hk
  rcases h.2 with ⟨e0, e1⟩ | ⟨g, cap', cur, e0, hb, -⟩
  · rw [e0] at hk; cases hk
  · rw [e0] at hk; cases hk; exact hb
theorem pz_roaddr {w : World} {B n cap : Nat} {A : Option Addr} {l : List Pz} (h : OwnPz w B A n cap l) : A = none ∨ ∃ g, A = some ⟨g, 0, none⟩ := by
  rcases h.2 with ⟨e0, e1⟩ | ⟨g, cap', cur, e0, -⟩
  · injection e0 with e0; exact .inl e0
  · injection e0 with e0; exact .inr ⟨g, e0⟩
theorem OwnPz.len {w : World} {B n cap : Nat} {A : Option Addr} {l : List Pz} (h : OwnPz w B A n cap l) : n = l.length := by have := h.1; rw [pzs_length] at this; omega
theorem OwnPz.nil (w : World) (B : Nat) : OwnPz w B none 0 0 [] := World.ownsRow_nil _ _ _ 8
theorem OwnPz.lt {w : World} {B n cap : Nat} {A : Option Addr} {l : List Pz} (h : OwnPz w B A n cap l) (g off : Nat) (hA : A = some ⟨g, off, none⟩) : g < w.heap.size ∧ B ≤ g ∧ off = 0 := by
  subst hA
  rcases h.2 with ⟨e0, e1⟩ | ⟨g', cap', cur, e0, hb, hg, -⟩
  · cases e0
  · cases e0; exact ⟨(Array.getElem?_eq_some_iff.1 hg).1, hb, rfl⟩
/-- append, the source nil, empty or not. -/
theorem wpList_append_pz {w : World} {ops : Array Oper} {rest : List Oper} {o : Oper} {ac : Act} {Q : Exit → Act → World → Prop} (hgd : o.guard = none) (s x : Operand)
    (ho : o.op = .call { callee := .builtin .append, args := #[s, x], argTypes := #[69, 69] })
    (B : Nat) (A : Option Addr) (n cap : Nat) (l : List Pz) (hs : ac.eval s = .slice A n cap) (hown : OwnPz w B A n cap l) (a : Option Addr) (m c : Nat) (l2 : List Pz) (hx : ac.eval x = .slice a m c) (hm : m = l2.length) (h2 : PzAt w a l2) (hnil : a = none → c = 0)
    (N : Nat) (hN : N = n + m) (hbytes : n + m ≤ 1000) (hbase : B ≤ w.heap.size)
    (h : ∀ A' cap' w', OwnPz w' B A' N cap' (l ++ l2) → N ≤ cap' → cap' ≤ maxLen → (A' = none → cap' = 0) → Below B w w' → (w.grownBy w' (Value.slice A n cap).ownBlock ∨ w' = w) → (A' = A ∨ (∃ g, A' = some ⟨g, 0, none⟩ ∧ w.heap.size ≤ g)) → wpList Try.prog ops Q rest (ac.put o.dst (.slice A' N cap')) w') : wpList Try.prog ops Q (o :: rest) ac w := by
  subst hN
  obtain ⟨i0, hi, hz0, hz1, hz2⟩ := info_parts infoPz
  rcases a with _ | ad
  · obtain rfl := hnil rfl
    have hl2 : l2 = [] := by
      rcases l2 with _ | ⟨x, r⟩
      · rfl
      · obtain ⟨g, off, e, -⟩ := h2 0 (.string x.p.key) rfl; cases e
    subst hl2
    have h0 : m = 0 := hm
    subst h0
    obtain ⟨A1, c1, e1, e2, e3, e4⟩ := pz_roslice hown
    injection e1 with b1 b2 b3
    subst b1; subst b3
    refine wpList_append_own_none hgd s x 69 ho B 97 i0 8 Try.underlying69 hi (.slice A n cap) n (pzs l) hs hown hx ?_
    exact h A cap w (by rw [List.append_nil]; exact hown) e2 e3 e4 (Below.refl _ _) (.inr rfl) (.inl rfl)
  · refine wpList_append_own_at w hgd s x 69 ho B 97 i0 _ 8 72 Try.underlying69 hi hz0 hz1 hz2 rfl (by decide) (.slice A n cap) n (pzs l) hs hown ad m c (pzs l2) hx (by rw [pzs_length, hm]) (fun j u hu => by
      obtain ⟨g', off', e, -, hc⟩ := h2 j u hu
      injection e with e; subst e
      rw [Addr.add_lit]; exact hc) (pzs_one l2) (by unfold maxLen; omega) (by omega) hbase ?_
    intro v' w2 hown2 hgr _ hloc
    have e : pzs l ++ pzs l2 = pzs (l ++ l2) := by unfold pzs; rw [List.flatMap_append]
    rw [e] at hown2
    obtain ⟨A1, c1, rfl, e2, e3, e4⟩ := pz_roslice hown2
    refine h A1 c1 w2 hown2 e2 e3 e4 ((Below.refl _ w).grown hgr hbase (pz_robase hown)) (.inl hgr) ?_
    have a1 := pz_roaddr hown2
    have a2 := pz_roaddr hown
    rcases a1 with rfl | ⟨g1, rfl⟩ <;> rcases a2 with rfl | ⟨g2, rfl⟩
    · exact .inl rfl
    · rcases hloc with hloc | hloc <;> cases hloc
    · rcases hloc with hloc | hloc
      · cases hloc
      · injection hloc with hloc
        exact .inr ⟨g1, rfl, Nat.le_of_eq (by simpa using hloc.symm)⟩
    · rcases hloc with hloc | hloc
      · injection hloc with hloc
        have : g1 = g2 := hloc
        rw [this]; exact .inl rfl
      · injection hloc with hloc
        exact .inr ⟨g1, rfl, Nat.le_of_eq (by simpa using hloc.symm)⟩
theorem pzs_take (l : List Pz) (k j : Nat) (v : Value) (h : (pzs (l.take k))[j]? = some v) : (pzs l)[j]? = some v := by
  have e : pzs l = pzs (l.take k) ++ pzs (l.drop k) := by unfold pzs; rw [← List.flatMap_append, List.take_append_drop]
  rw [e, List.getElem?_append_left (List.getElem?_eq_some_iff.1 h).1, h]
theorem pzs_drop (l : List Pz) (k : Nat) (hk : k ≤ l.length) (j : Nat) : (pzs (l.drop k))[j]? = (pzs l)[k * 8 + j]? := by
  have e : pzs l = pzs (l.take k) ++ pzs (l.drop k) := by unfold pzs; rw [← List.flatMap_append, List.take_append_drop]
  have hl : (pzs (l.take k)).length = k * 8 := by rw [pzs_length, List.length_take, Nat.min_eq_left hk]
  rw [e, List.getElem?_append_right (by omega), hl, Nat.add_sub_cancel_left]
theorem OwnPz.at' {w : World} {B n cap : Nat} {A : Option Addr} {l : List Pz} (h : OwnPz w B A n cap l) : PzAt w A l := fun j v hv => by
  have hjl := (List.getElem?_eq_some_iff.1 hv).1
  rcases h.2 with ⟨e0, e1⟩ | ⟨g, cap', cur, e0, hb, hg, hn, hm, hs, ht⟩
  · have := h.1; rw [e1, Nat.zero_mul] at this; omega
  · injection e0 with a1 a2 a3
    subst a1
    refine ⟨g, 0, rfl, (Array.getElem?_eq_some_iff.1 hg).1, ?_⟩
    rw [cell_of_row _ _ _ _ _ _ hg, Nat.zero_add, ← Array.getElem?_toList]
    have := h.1
    rw [← ht, List.getElem?_take] at hv
    rw [if_pos (by omega)] at hv
    exact hv
theorem pzr {w : World} {A : Option Addr} {l : List Pz} (h : PzAt w A l) (i : Nat) (x : Pz) (hx : l[i]? = some x) : ∃ g off, A = some ⟨g, off, none⟩ ∧ g < w.heap.size ∧ w.rangeAt g (off + i * 8) x.cells := by
  have h0 : (pzs l)[i * 8 + 0]? = x.cells[0]? := by rw [pzs_get l i 0 (by decide), hx]; rfl
  obtain ⟨g, off, e, hg, -⟩ := h (i * 8 + 0) (.string x.p.key) (by rw [h0]; rfl)
  refine ⟨g, off, e, hg, fun j v hv => ?_⟩
  have hj : j < 8 := (List.getElem?_eq_some_iff.1 hv).1
  have h1 : (pzs l)[i * 8 + j]? = some v := by rw [pzs_get l i j hj, hx]; exact hv
  obtain ⟨g', off', e', -, hc⟩ := h _ _ h1
  rw [e] at e'; injection e' with e'; injection e' with b1 b2; subst b1; subst b2
  rw [Nat.add_assoc]; exact hc
theorem pzkeep {w w' : World} {g o : Nat} {x : Pz} (h : w.rangeAt g o x.cells) (hg : g < w.heap.size) (hb : Below w.heap.size w w') : w'.rangeAt g o x.cells := fun j v hv => (hb.cell (p := ⟨g, o + j, none⟩) hg).trans (h j v hv)
theorem OwnPz.less {w : World} {B B' n cap : Nat} {A : Option Addr} {l : List Pz} (h : OwnPz w B A n cap l) (hB : B' ≤ B) : OwnPz w B' A n cap l := by
  refine ⟨h.1, ?_⟩
  rcases h.2 with h1 | ⟨g, cap', cur, h1, hb, h2⟩
  · exact .inl h1
  · exact .inr ⟨g, cap', cur, h1, Nat.le_trans hB hb, h2⟩
theorem OwnPz.below {w w' : World} {B B' n cap : Nat} {A : Option Addr} {l : List Pz} (h : OwnPz w B A n cap l) (hb : Below B' w w') (hA : ∀ g off, A = some ⟨g, off, none⟩ → g < B') : OwnPz w' B A n cap l := by
  refine ⟨h.1, ?_⟩
  rcases h.2 with h1 | ⟨g, cap', cur, h1, hb1, h2, h3⟩
  · exact .inl h1
  · injection h1 with a1 a2 a3
    subst a1; subst a3
    exact .inr ⟨g, cap, cur, rfl, hb1, (hb.block g (hA g 0 rfl)).trans h2, h3⟩
theorem OwnPz.same {w w' : World} {B n cap : Nat} {A : Option Addr} {l : List Pz} (h : OwnPz w B A n cap l) (hA : ∀ g off, A = some ⟨g, off, none⟩ → w'.heap[g]? = w.heap[g]?) : OwnPz w' B A n cap l := by
  refine ⟨h.1, ?_⟩
  rcases h.2 with h1 | ⟨g, cap', cur, h1, hb1, h2, h3⟩
  · exact .inl h1
  · injection h1 with a1 a2 a3
    subst a1; subst a3
    exact .inr ⟨g, cap, cur, rfl, hb1, (hA g 0 rfl).trans h2, h3⟩
theorem pzAt_new (w : World) (l : List Pz) (cs : Array Value) (hcs : cs.toList = pzs l) (t : TypeId) : PzAt (w.alloc (.cells cs t)) (some ⟨w.heap.size, 0, none⟩) l := fun j v hv => by
  refine ⟨w.heap.size, 0, rfl, by simp, ?_⟩
  rw [Nat.zero_add, cell_of_row _ _ _ _ _ _ (heap_new w _), ← Array.getElem?_toList, hcs]; exact hv
theorem pzcut_from (a : Option Addr) (len cap k : Nat) (hk : k ≤ len) (hc : len ≤ cap) (hnil : a = none → cap = 0) :
    ∃ A C, (∀ w, (Instr.slice 69 (.slice a len cap) (some (.int .i64 (k : Int))) none none).run Try.prog w = .ok (.slice A (len - k) C) w) ∧ (A = none → C = 0) ∧ len - k ≤ C ∧ ∀ w l, len = l.length → PzAt w a l → PzAt w A (l.drop k) := by
  refine ⟨if cap = k then a else a.map (·.add (k * 8)), cap - k, fun w => ?_, fun h => ?_, by omega, fun w l hl h j x hx => ?_⟩
  · rw [run_slice_l w 69 a len cap Try.underlying69 .i64 (k : Int) (by omega) (by omega)]
    rw [show (Go.sizeOf (Try.prog.elem 69)).run Try.prog w = .ok 8 w from by kernel_rfl]
    simp [Result.andThen, sliced]
  · split at h
    · omega
    · rcases a with _ | a
      · have := hnil rfl; omega
      · cases h
  · have hkl : k < l.length := by
      have := (List.getElem?_eq_some_iff.1 hx).1
      rw [pzs_length, List.length_drop] at this; omega
    rw [pzs_drop l k (by omega)] at hx
    obtain ⟨g, off, rfl, hg, hcell⟩ := h _ _ hx
    rw [if_neg (by omega)]
    exact ⟨g, off + k * 8, by simp [Addr.add_lit], hg, by rw [Nat.add_assoc]; exact hcell⟩
theorem pzcut_to (a : Option Addr) (len cap k : Nat) (hk : k ≤ len) (hc : len ≤ cap) (hnil : a = none → cap = 0) :
    ∃ A, (∀ w, (Instr.slice 69 (.slice a len cap) none (some (.int .i64 (k : Int))) none).run Try.prog w = .ok (.slice A k cap) w) ∧ (A = none → cap = 0) ∧ ∀ w l, len = l.length → PzAt w a l → PzAt w A (l.take k) := by
  refine ⟨if cap = 0 then a else a.map (·.add 0), fun w => ?_, fun h => ?_, fun w l hl h j x hx => ?_⟩
  · rw [run_slice_h w 69 a len cap Try.underlying69 .i64 (k : Int) (by omega) (by omega)]
    rw [show (Go.sizeOf (Try.prog.elem 69)).run Try.prog w = .ok 8 w from by kernel_rfl]
    simp [Result.andThen, sliced]
  · split at h
    · omega
    · rcases a with _ | a
      · have := hnil rfl; omega
      · cases h
  · obtain ⟨g, off, rfl, hg, hcell⟩ := h _ _ (pzs_take l k j x hx)
    exact ⟨g, off, by simp [Addr.add_lit], hg, hcell⟩
theorem flatK_wn (l : List Wd) : (flatK Wd.cells 2 l.toArray).toList = wns l := by
  apply List.ext_getElem?
  intro t
  by_cases ht : t < l.length * 2
  · have h1 := get_flatK Wd.cells 2 l.toArray t (by simpa using ht)
    have h2 := wns_get l (t / 2) (t % 2) (by omega)
    rw [show t / 2 * 2 + t % 2 = t by omega] at h2
    rw [h2]
    have h3 : t / 2 < l.length := by omega
    rw [List.getElem?_eq_getElem h3]
    rw [getElem!_pos _ t (by simpa using ht)] at h1
    rw [Array.getElem?_toList, Array.getElem?_eq_getElem (by simpa using ht), h1]
    simp only [Option.bind_some]
    rw [show l.toArray[t / 2]! = l[t / 2] from by simp [getElem!_pos, h3]]
    rw [getElem!_pos _ (t % 2) (by rw [wn_len]; omega), List.getElem?_eq_getElem (by rw [wn_len]; omega)]
  · rw [List.getElem?_eq_none (by simp; omega), List.getElem?_eq_none (by rw [wns_length]; omega)]
theorem wnholds_own {w : World} {B n : Nat} {v : Value} {l : List Wd} (h : w.ownsRow B 84 2 v n (wns l)) (hv : v ≠ .slice none 0 0) :
    ∃ g cap, v = .slice (some ⟨g, 0, none⟩) n cap ∧ B ≤ g ∧ g < w.heap.size ∧ n = l.length ∧ HoldsK Wd.cells 2 w g 0 l.toArray := by
  have hl : n = l.length := by have := h.1; rw [wns_length] at this; omega
  rcases h.2 with ⟨e0, _⟩ | ⟨g, cap, cur, rfl, hb, hg, hn, hm, hs, ht⟩
  · exact absurd e0 hv
  · refine ⟨g, cap, rfl, hb, (Array.getElem?_eq_some_iff.1 hg).1, hl, fun j hj => ?_⟩
    have hj' : j < l.length * 2 := by simpa using hj
    refine ⟨?_, by simp [World.frozen?, hg]⟩
    rw [cell_of_row w g (0 + j) cur 84 (0, 0) hg, Nat.zero_add, ← Array.getElem?_toList]
    have e1 : (cur.toList.take (n * 2))[j]? = (wns l)[j]? := by rw [ht]
    rw [List.getElem?_take, if_pos (by omega)] at e1
    rw [e1, ← flatK_wn, Array.getElem?_toList, getElem!_pos _ j hj, Array.getElem?_eq_getElem hj]; rfl
theorem wnown_put {w : World} {B n g cap q : Nat} {l m : List Wd} (h : w.ownsRow B 84 2 (.slice (some ⟨g, 0, none⟩) n cap) n (wns l)) (hm : m.length = l.length) (os : Array Obj) :
    OwnWn (sortWorldK Wd.cells 2 w g 0 q m.toArray os) B (some ⟨g, 0, none⟩) n cap m := by
  have hl : n = l.length := by have := h.1; rw [wns_length] at this; omega
  rcases h.2 with ⟨e0, _⟩ | ⟨g', cap', cur, e0, hb, hg, hn, hmx, hs, ht⟩
  · cases e0
  · cases e0
    refine ⟨by rw [wns_length]; omega, .inr ⟨g, cap, putCells id 0 (flatK Wd.cells 2 m.toArray) cur, rfl, hb, ?_, hn, hmx, by simpa [putCells] using hs, ?_⟩⟩
    · show (grow (putRowK Wd.cells 2 (Sort.ahead w q) g 0 m.toArray) os).heap[g]? = _
      have hlt := (Array.getElem?_eq_some_iff.1 hg).1
      rw [heap_grow_old _ _ (by simpa [putRowK, putRow, mapBlock, Sort.ahead] using hlt)]
      simp [putRowK, putRow, mapBlock, Sort.ahead, Array.getElem?_modify, hg, onCells]
    · have hfl := flatK_wn m
      apply List.ext_getElem?
      intro j
      rw [List.getElem?_take, Array.getElem?_toList]
      by_cases hj : j < n * 2
      · have hjc : j < cur.size := by have := Nat.mul_le_mul_right 2 hn; omega
        have hjf : j < (flatK Wd.cells 2 m.toArray).size := by simp; omega
        simp only [if_pos hj, putCells, Array.getElem?_mapIdx, Array.getElem?_eq_getElem hjc, Option.map_some]
        rw [if_pos (by simp; omega), ← hfl, Array.getElem?_toList, Array.getElem?_eq_getElem hjf]
        simp only [Nat.sub_zero, id]
        rw [getElem!_pos (flatK Wd.cells 2 m.toArray) j hjf]
      · rw [if_neg hj, List.getElem?_eq_none (by rw [wns_length]; omega)]
theorem below_sortWn {B : Nat} {w0 w : World} {g q : Nat} {d : Array Wd} {os : Array Obj} (h : Below B w0 w) (hB : B ≤ w.heap.size) (hg : B ≤ g) : Below B w0 (sortWorldK Wd.cells 2 w g 0 q d os) :=
  below_grow (Lib.below_putRow h hg) (by simpa [putRow, mapBlock, Sort.ahead] using hB) os
theorem flatK_gr (l : List Grp) : (flatK Grp.cells 42 l.toArray).toList = grs l := by
  apply List.ext_getElem?
  intro t
  by_cases ht : t < l.length * 42
  · have h1 := get_flatK Grp.cells 42 l.toArray t (by simpa using ht)
    have h2 := grs_get l (t / 42) (t % 42) (by omega)
    rw [show t / 42 * 42 + t % 42 = t by omega] at h2
    rw [h2]
    have h3 : t / 42 < l.length := by omega
    rw [List.getElem?_eq_getElem h3]
    rw [getElem!_pos _ t (by simpa using ht)] at h1
    rw [Array.getElem?_toList, Array.getElem?_eq_getElem (by simpa using ht), h1]
    simp only [Option.bind_some]
    rw [show l.toArray[t / 42]! = l[t / 42] from by simp [getElem!_pos, h3]]
    rw [getElem!_pos _ (t % 42) (by rw [gr_len]; omega), List.getElem?_eq_getElem (by rw [gr_len]; omega)]
  · rw [List.getElem?_eq_none (by simp; omega), List.getElem?_eq_none (by rw [grs_length]; omega)]
theorem grholds_own {w : World} {B n : Nat} {v : Value} {l : List Grp} (h : w.ownsRow B 91 42 v n (grs l)) (hv : v ≠ .slice none 0 0) :
    ∃ g cap, v = .slice (some ⟨g, 0, none⟩) n cap ∧ B ≤ g ∧ g < w.heap.size ∧ n = l.length ∧ HoldsK Grp.cells 42 w g 0 l.toArray := by
  have hl : n = l.length := by have := h.1; rw [grs_length] at this; omega
  rcases h.2 with ⟨e0, _⟩ | ⟨g, cap, cur, rfl, hb, hg, hn, hm, hs, ht⟩
  · exact absurd e0 hv
  · refine ⟨g, cap, rfl, hb, (Array.getElem?_eq_some_iff.1 hg).1, hl, fun j hj => ?_⟩
    have hj' : j < l.length * 42 := by simpa using hj
    refine ⟨?_, by simp [World.frozen?, hg]⟩
    rw [cell_of_row w g (0 + j) cur 91 (0, 0) hg, Nat.zero_add, ← Array.getElem?_toList]
    have e1 : (cur.toList.take (n * 42))[j]? = (grs l)[j]? := by rw [ht]
    rw [List.getElem?_take, if_pos (by omega)] at e1
    rw [e1, ← flatK_gr, Array.getElem?_toList, getElem!_pos _ j hj, Array.getElem?_eq_getElem hj]; rfl
theorem grown_put {w : World} {B n g cap q : Nat} {l m : List Grp} (h : w.ownsRow B 91 42 (.slice (some ⟨g, 0, none⟩) n cap) n (grs l)) (hm : m.length = l.length) (os : Array Obj) :
    OwnGr (sortWorldK Grp.cells 42 w g 0 q m.toArray os) B (some ⟨g, 0, none⟩) n cap m := by
  have hl : n = l.length := by have := h.1; rw [grs_length] at this; omega
  rcases h.2 with ⟨e0, _⟩ | ⟨g', cap', cur, e0, hb, hg, hn, hmx, hs, ht⟩
  · cases e0
  · cases e0
    refine ⟨by rw [grs_length]; omega, .inr ⟨g, cap, putCells id 0 (flatK Grp.cells 42 m.toArray) cur, rfl, hb, ?_, hn, hmx, by simpa [putCells] using hs, ?_⟩⟩
    · show (grow (putRowK Grp.cells 42 (Sort.ahead w q) g 0 m.toArray) os).heap[g]? = _
      have hlt := (Array.getElem?_eq_some_iff.1 hg).1
      rw [heap_grow_old _ _ (by simpa [putRowK, putRow, mapBlock, Sort.ahead] using hlt)]
      simp [putRowK, putRow, mapBlock, Sort.ahead, Array.getElem?_modify, hg, onCells]
    · have hfl := flatK_gr m
      apply List.ext_getElem?
      intro j
      rw [List.getElem?_take, Array.getElem?_toList]
      by_cases hj : j < n * 42
      · have hjc : j < cur.size := by have := Nat.mul_le_mul_right 42 hn; omega
        have hjf : j < (flatK Grp.cells 42 m.toArray).size := by simp; omega
        simp only [if_pos hj, putCells, Array.getElem?_mapIdx, Array.getElem?_eq_getElem hjc, Option.map_some]
        rw [if_pos (by simp; omega), ← hfl, Array.getElem?_toList, Array.getElem?_eq_getElem hjf]
        simp only [Nat.sub_zero, id]
        rw [getElem!_pos (flatK Grp.cells 42 m.toArray) j hjf]
      · rw [if_neg hj, List.getElem?_eq_none (by rw [grs_length]; omega)]
theorem below_sortGr {B : Nat} {w0 w : World} {g q : Nat} {d : Array Grp} {os : Array Obj} (h : Below B w0 w) (hB : B ≤ w.heap.size) (hg : B ≤ g) : Below B w0 (sortWorldK Grp.cells 42 w g 0 q d os) :=
  below_grow (Lib.below_putRow h hg) (by simpa [putRow, mapBlock, Sort.ahead] using hB) os
end Go.Proofs.Ytbimfopbilcdgaa

set_option linter.unusedSimpArgs false
set_option linter.unusedVariables false
set_option maxRecDepth 8000
namespace Go.Proofs.Ytbimfopbilcdgaa
open Go.RowKit Go.Sort

def revLays_ren : Go.Shelf.Ren := ⟨fun | 35 => 74 | n => n, fun | 22 => 79 | 23 => 84 | 3 => 3 | 4 => 4 | 0 => 0 | n => n, fun n => n⟩
theorem revLays : Go.Proofs.SlLaysE0.n35 Try.prog revLays_ren := {
  mixed := by kernel_rfl
  f35 := ⟨Try.f74.name, by decide, Try.func74.trans (congrArg some (by kernel_rfl))⟩
  t0 := Try.underlying0
  a0 := Try.isAgg0
  z0 := Try.sizeOf0
  v0 := Try.zeroValue0
  t3 := Try.underlying3
  a3 := Try.isAgg3
  z3 := Try.sizeOf3
  v3 := Try.zeroValue3
  t4 := Try.underlying4
  a4 := Try.isAgg4
  z4 := Try.sizeOf4
  v4 := Try.zeroValue4
  t22 := Try.underlying79
  a22 := Try.isAgg79
  z22 := Try.sizeOf79
  v22 := Try.zeroValue79 }
theorem rem_neg (t st : Int) (h : 1 ≤ st) (hn : t.tmod st < 0) : t.tmod st + st = t % st := by
  rw [Int.tmod_eq_emod] at *
  have h1 := Int.emod_nonneg t (b := st) (by omega)
  split at hn
  · omega
  · rename_i hc; rw [if_neg hc]; omega
theorem rem_pos (t st : Int) (h : 1 ≤ st) (hn : ¬ t.tmod st < 0) : t.tmod st = t % st := by
  rw [Int.tmod_eq_emod] at *
  have h1 := Int.emod_lt_of_pos t (b := st) (by omega)
  split at hn
  · rename_i hc; rw [if_pos hc]; omega
  · exact absurd (by omega) hn
set_option maxHeartbeats 400000 in
theorem floor_any (t st : Int) (h1 : 1 ≤ st) (h2 : st ≤ 1073741824) (t1 : -4398046511104 ≤ t) (t2 : t ≤ 4398046511104) (w : World) :
    Calls Try.prog 100 #[.int .i64 t, .int .i64 st] w fun e w' => e = .returned (.int .i64 (t - t % st)) ∧ w = w' := by
  have a1 := Int.emod_nonneg t (b := st) (by omega)
  have a2 := Int.emod_lt_of_pos t (b := st) (by omega)
  by_cases hn : t.tmod st < 0
  · have HE := Lib.hid (rem_neg t st h1 hn)
    have b1 : -1073741824 ≤ t.tmod st := by have := HE.out; omega
    have b2 : t.tmod st + st ≤ 1073741824 := by omega
    clear a1 a2
    go_enter Try.func100, Try.ntmps100
    go_wp2
    go_ret
    exact ⟨ret_eq (by show Value.int .i64 _ = Value.int .i64 _; congr 1; have := HE.out; omega), rfl⟩
  · have HE := Lib.hid (rem_pos t st h1 hn)
    have b1 : t.tmod st ≤ 1073741824 := by have := HE.out; omega
    have b2 : 0 ≤ t.tmod st := by omega
    clear a1 a2
    go_enter Try.func100, Try.ntmps100
    go_wp2
    go_ret
    exact ⟨ret_eq (by show Value.int .i64 _ = Value.int .i64 _; congr 1; have := HE.out; omega), rfl⟩
/-- A config in a box. -/
abbrev Cf.v (c : Cf) : Value := .agg #[.int .u8 (c.kind : Int), .int .i64 c.size, .int .i64 c.step, .int .i64 c.late, .int .i64 c.skew, .int .i64 c.parts, .int .u64 (c.cut : Int)]
set_option maxHeartbeats 1000000 in
theorem stepForm_yes (c : Cf) (h : c.Ok) (w : World) : Calls Try.prog 72 #[c.v] w fun e w' => e = .returned (.bool true) ∧ Below w.heap.size w w' := by
  have s1 := h.size1
  have s2 := h.size2
  have hk : c.kind = 0 ∨ c.kind = 1 ∨ c.kind = 2 := by have := h.kind; omega
  have HB : Hid (Below w.heap.size w (w.alloc (.cells #[.int .u8 (c.kind : Int), .int .i64 c.size, .int .i64 c.step, .int .i64 c.late, .int .i64 c.skew, .int .i64 c.parts, .int .u64 (c.cut : Int)] 64))) := Lib.hid ((Below.refl _ _).alloc (Nat.le_refl _) _)
  obtain ⟨kind, size, step, late, skew, parts, cut⟩ := c
  have h0 := h.step0
  have h1 := h.step1
  simp only at *
  clear h
  rcases hk with rfl | rfl | rfl
  · obtain rfl := h0 (by omega)
    clear h0 h1
    go_enter Try.func72, Try.ntmps72
    go_wp2
    go_ret
    exact ⟨rfl, HB.out⟩
  · obtain ⟨b1, b2, b3⟩ := h1 rfl
    clear h0 h1
    have b4 : step ≤ 1073741824 := by omega
    go_enter Try.func72, Try.ntmps72
    go_wp2
    go_ret
    exact ⟨rfl, HB.out⟩
  · obtain rfl := h0 (by omega)
    clear h0 h1
    go_enter Try.func72, Try.ntmps72
    go_wp2
    go_ret
    exact ⟨rfl, HB.out⟩
set_option maxHeartbeats 1000000 in
theorem formW_yes (c : Cf) (h : c.Ok) (w : World) : Calls Try.prog 43 #[c.v] w fun e w' => e = .returned (.bool true) ∧ Below w.heap.size w w' := by
  have HS := Lib.hid (stepForm_yes c h)
  have HB : Hid (Below w.heap.size w (w.alloc (.cells #[.int .u8 (c.kind : Int), .int .i64 c.size, .int .i64 c.step, .int .i64 c.late, .int .i64 c.skew, .int .i64 c.parts, .int .u64 (c.cut : Int)] 64))) := Lib.hid ((Below.refl _ _).alloc (Nat.le_refl _) _)
  obtain ⟨kind, size, step, late, skew, parts, cut⟩ := c
  have b1 := h.size1
  have b2 := h.size2
  have b3 := h.late2
  have b4 := h.skew1
  have b5 := h.skew2
  have b6 := h.parts1
  have b7 := h.parts2
  have b8 := h.cut
  simp only at *
  have b9 : (cut : Int) ≤ 1099511627776 := by omega
  clear h b8
  go_enter Try.func43, Try.ntmps43
  go_wp2_with (go_at_call 72; with_reducible refine (HS.out _).mono ?_; rintro e w1 ⟨rfl, hb⟩; have HB1 := Lib.hid (bto HB.out hb); have hc := fun j => hb.cell (p := ⟨w.heap.size, j, none⟩) (by simp); clear hb)
  go_ret
  exact ⟨rfl, HB1.out⟩
set_option maxHeartbeats 400000 in
theorem lastStart_any (c : Cf) (h : c.Ok) (t : Int) (t1 : -4398046511104 ≤ t) (t2 : t ≤ 4398046511104) (w : World) : Calls Try.prog 73 #[c.v, .int .i64 t] w fun e w' => e = .returned (.int .i64 (c.a t)) ∧ Below w.heap.size w w' := by
  have hk : c.kind = 0 ∨ c.kind = 1 ∨ c.kind = 2 := by have := h.kind; omega
  have HB : Hid (Below w.heap.size w (w.alloc (.cells #[.int .u8 (c.kind : Int), .int .i64 c.size, .int .i64 c.step, .int .i64 c.late, .int .i64 c.skew, .int .i64 c.parts, .int .u64 (c.cut : Int)] 64))) := Lib.hid ((Below.refl _ _).alloc (Nat.le_refl _) _)
  have b1 := h.st
  have b2 := h.size1
  have b3 := h.size2
  have HF := Lib.hid fun w => floor_any t c.st b1.1 (by omega) t1 t2 w
  have HA : Hid (c.a t = if c.kind = 2 then t else t - t % c.st) := Lib.hid rfl
  have HT : Hid (c.st = if c.kind = 1 then c.step else c.size) := Lib.hid rfl
  obtain ⟨kind, size, step, late, skew, parts, cut⟩ := c
  generalize Cf.a _ _ = a at *
  generalize Cf.st _ = st at *
  simp only at *
  clear h b1
  rcases hk with rfl | rfl | rfl
  · obtain rfl : st = size := HT.out
    have HR : Hid (t - t % st = a) := Lib.hid HA.out.symm
    generalize t - t % st = a' at *
    go_enter Try.func73, Try.ntmps73
    go_wp2_with (go_at_call 100; with_reducible refine (HF.out _).mono ?_; rintro e w1 ⟨rfl, rfl⟩)
    go_ret
    exact ⟨ret_eq (by rw [HR.out]; rfl), HB.out⟩
  · obtain rfl : st = step := HT.out
    have HR : Hid (t - t % st = a) := Lib.hid HA.out.symm
    generalize t - t % st = a' at *
    go_enter Try.func73, Try.ntmps73
    go_wp2_with (go_at_call 100; with_reducible refine (HF.out _).mono ?_; rintro e w1 ⟨rfl, rfl⟩)
    go_ret
    exact ⟨ret_eq (by rw [HR.out]; rfl), HB.out⟩
  · have HR : Hid (t = a) := Lib.hid HA.out.symm
    go_enter Try.func73, Try.ntmps73
    go_wp2
    go_ret
    exact ⟨ret_eq (by rw [HR.out]; rfl), HB.out⟩
set_option maxHeartbeats 400000 in
theorem meet_any (a b : ZP) (w : World) : Calls Try.prog 48 #[.agg #[.int .i64 a.s, .int .i64 a.e], .agg #[.int .i64 b.s, .int .i64 b.e]] w fun e w' => e = .returned (.bool (meetP a b)) ∧ Below w.heap.size w w' := by
  have HB : Hid (Below w.heap.size w ((w.alloc (.cells #[.int .i64 a.s, .int .i64 a.e] 84)).alloc (.cells #[.int .i64 b.s, .int .i64 b.e] 84))) := Lib.hid (((Below.refl _ _).alloc (Nat.le_refl _) _).alloc (by simp) _)
  obtain ⟨ka, sa, ea⟩ := a
  obtain ⟨kb, sb, eb⟩ := b
  simp only at *
  by_cases h1 : sa < eb
  · by_cases h2 : sb < ea
    · have HR : Hid (meetP ⟨ka, sa, ea⟩ ⟨kb, sb, eb⟩ = true) := Lib.hid (by unfold meetP; simp [h1, h2])
      go_enter Try.func48, Try.ntmps48
      go_wp2
      go_ret
      exact ⟨ret_eq (by rw [HR.out]; rfl), HB.out⟩
    · have HR : Hid (meetP ⟨ka, sa, ea⟩ ⟨kb, sb, eb⟩ = false) := Lib.hid (by unfold meetP; simp [h1]; omega)
      go_enter Try.func48, Try.ntmps48
      go_wp2
      go_ret
      exact ⟨ret_eq (by rw [HR.out]; rfl), HB.out⟩
  · have HR : Hid (meetP ⟨ka, sa, ea⟩ ⟨kb, sb, eb⟩ = false) := Lib.hid (by unfold meetP; simp; omega)
    go_enter Try.func48, Try.ntmps48
    go_wp2
    go_ret
    exact ⟨ret_eq (by rw [HR.out]; rfl), HB.out⟩
theorem run_min_z (ts : Array TypeId) (ty : TypeId) (a b : Int) (w : World) : (Builtin.min_ ts ty #[.int .i64 a, .int .i64 b]).run Try.prog w = .ok (.int .i64 (min a b)) w := by
  have e : min a b = if b < a then b else a := by rw [Int.min_def]; split <;> split <;> omega
  rw [e]; simp [Builtin.min_, Builtin.min2]
theorem run_max_z (ts : Array TypeId) (ty : TypeId) (a b : Int) (w : World) : (Builtin.max_ ts ty #[.int .i64 a, .int .i64 b]).run Try.prog w = .ok (.int .i64 (max a b)) w := by
  have e : max a b = if a < b then b else a := by rw [Int.max_def]; split <;> split <;> omega
  rw [e]; simp [Builtin.max_, Builtin.max2]
theorem uWn : Try.prog.underlying 84 = some (.struct (Try.prog.fieldsOf 84)) := by kernel_rfl
theorem iWn (a b : Value) : (Try.prog.info? 84).map (·.size) = some (#[a, b] : Array Value).size := by kernel_rfl
set_option maxHeartbeats 400000 in
theorem joinW_any (a b : ZP) (w : World) : Calls Try.prog 109 #[.agg #[.int .i64 a.s, .int .i64 a.e], .agg #[.int .i64 b.s, .int .i64 b.e]] w fun e w' => e = .returned (.agg #[.int .i64 (joinP a b).s, .int .i64 (joinP a b).e]) ∧ Below w.heap.size w w' := by
  unfold joinP
  obtain ⟨ka, sa, ea⟩ := a
  obtain ⟨kb, sb, eb⟩ := b
  simp only at *
  have hm := fun ts ty w => run_min_z ts ty sa sb w
  have hM := fun ts ty w => run_max_z ts ty ea eb w
  generalize min sa sb = m at *
  generalize max ea eb = M at *
  go_enter Try.func109, Try.ntmps109
  go_wp2
  exact post_row 4 84 Try.results109 rfl (w.heap.size + 1 + 1) 84 _ (0, 0) _ rfl (by have h9 := heap_new ((w.alloc (.cells #[.int .i64 sa, .int .i64 ea] 84)).alloc (.cells #[.int .i64 sb, .int .i64 eb] 84)) (.cells #[.int .i64 m, .int .i64 M] 84); simpa using h9) uWn rfl (iWn _ _) ⟨rfl, (((Below.refl _ _).alloc (Nat.le_refl _) _).alloc (by simp) _).alloc (by simp; omega) _⟩
end Go.Proofs.Ytbimfopbilcdgaa

set_option linter.unusedSimpArgs false
set_option linter.unusedVariables false
set_option maxRecDepth 8000
namespace Go.Proofs.Ytbimfopbilcdgaa
open Go.RowKit Go.Sort

theorem rev_any (g cap n : Nat) (l : List Wd) (hn : n = l.length) (hb : n ≤ 1000) (w : World) (hH : HoldsK Wd.cells 2 w g 0 l.toArray) :
    Calls Try.prog 74 #[.slice (some ⟨g, 0, none⟩) n cap] w fun e w' => e = .returned (.tuple #[]) ∧ ∃ q, w' = sortWorldK Wd.cells 2 w g 0 q l.reverse.toArray #[] := by
  have h := AnyQ.slices_Reverse revLays 2 Try.isAgg84 Try.sizeOf84 Wd.cells wn_len wn_one g 0 cap l.toArray w hH (by simp; omega)
  change Calls Try.prog 74 _ _ _ at h
  rw [show l.toArray.size = n by simp [hn]] at h
  refine h.mono ?_
  rintro e w' ⟨rfl, q, rfl⟩
  refine ⟨rfl, q, ?_⟩
  unfold sortWorldK
  rw [grow_empty, List.reverse_toArray]
/-- A list of windows that a call makes. -/
def WnRet (w : World) (l : List Wd) (e : Ending) (w' : World) : Prop := ∃ A n cap, e = .returned (.slice A n cap) ∧ n = l.length ∧ OwnWn w' w.heap.size A n cap l ∧ Below w.heap.size w w'
/-- The world with a config in a box. -/
abbrev cfW (w : World) (c : Cf) : World := w.alloc (.cells #[.int .u8 (c.kind : Int), .int .i64 c.size, .int .i64 c.step, .int .i64 c.late, .int .i64 c.skew, .int .i64 c.parts, .int .u64 (c.cut : Int)] 64)
theorem cf_cell (w : World) (c : Cf) {w' : World} (hb : Below (w.heap.size + 1) (cfW w c) w') (j : Nat) (v : Value) (hv : (#[.int .u8 (c.kind : Int), .int .i64 c.size, .int .i64 c.step, .int .i64 c.late, .int .i64 c.skew, .int .i64 c.parts, .int .u64 (c.cut : Int)] : Array Value)[j]? = some v) : w'.cell? ⟨w.heap.size, j, none⟩ = some v := by
  rw [hb.cell (p := ⟨w.heap.size, j, none⟩) (by show w.heap.size < w.heap.size + 1; omega), cell_of_row _ _ _ _ _ _ (heap_new w _)]; exact hv
def RWo (w : World) (c : Cf) (t : Int) (l s : Value) (wr : World) : Prop := ∃ (k cap : Nat) (A : Option Addr), k ≤ c.n t ∧ l = .slice A k cap ∧ s = .int .i64 (c.a t - k * c.st) ∧ k ≤ cap ∧ cap ≤ maxLen ∧ (A = none → cap = 0) ∧ OwnWn wr (w.heap.size + 1) A k cap (fwd c t k) ∧ Below (w.heap.size + 1) (cfW w c) wr
theorem wn_new (w : World) (g : Nat) (l : List Wd) (cs : Array Value) (hcs : cs.toList = wns l) (t : TypeId) (hg : g = w.heap.size) : WnAt (w.alloc (.cells cs t)) (some ⟨g, 0, none⟩) l := by subst hg; exact wnAt_new w l cs hcs t
set_option maxHeartbeats 2000000 in
theorem of13_core (c : Cf) (h : c.Ok) (t : Int) (t1 : -4398046511104 ≤ t) (t2 : t ≤ 4398046511104) (w : World) (kb : Bool) (hkb : ((c.kind : Int) == 1) = kb) (stp : Int) (hstp : stp = if kb = true then c.step else c.size) (HST : Hid (stp = c.st)) : Calls Try.prog 44 #[c.v, .int .i64 t] w (WnRet w (wOf c t)) := by
  have HF := Lib.hid (formW_yes c h)
  have HLS := Lib.hid (lastStart_any c h t t1 t2)
  have HN := Lib.hid (h.n t)
  have HBD := Lib.hid (h.bd t)
  have H16 := Lib.hid (h.n16 t)
  have HN1 := Lib.hid (h.n1 t)
  have HFW := Lib.hid (fwd_succ c t)
  have ha := h.a t
  have b1 := h.st
  have b2 := h.size1
  have b3 := h.size2
  have s1 : 1 ≤ stp := by have := HST.out; omega
  have s2 : stp ≤ 1073741824 := by have := HST.out; omega
  have a1 : c.a t ≤ t := ha.1
  have a2 : t - 1073741824 ≤ c.a t := by omega
  have HB0 : Hid (Below (w.heap.size + 1) (cfW w c) (cfW w c)) := Lib.hid (Below.refl _ _)
  have HW0 : Hid (Below w.heap.size w (cfW w c)) := Lib.hid ((Below.refl _ _).alloc (Nat.le_refl _) _)
  clear ha b1 h
  obtain ⟨a, hA⟩ : ∃ a, a = c.a t := ⟨_, rfl⟩
  rw [← hA] at a1 a2
  have HAE := Lib.hid hA
  rw [hA.symm] at HLS
  clear hA
  obtain ⟨stp', hsp⟩ : ∃ q, q = stp := ⟨_, rfl⟩
  have HSP := Lib.hid hsp
  clear hsp
  rcases kb with _ | _
  all_goals
    simp only [if_true, Bool.false_eq_true, if_false] at hstp
    subst hstp
    go_enter Try.func44, Try.ntmps44
    go_wp2_with (first
      | (go_at_call 43; (with_reducible refine (HF.out _).mono ?_); rintro e w1 ⟨rfl, hb1⟩; have HB1 := Lib.hid (HB0.out.trans (hb1.mono (by simp))); have q0 := cf_cell w c HB1.out 0 _ rfl; have q1 := cf_cell w c HB1.out 1 _ rfl; have q2 := cf_cell w c HB1.out 2 _ rfl; have q3 := cf_cell w c HB1.out 3 _ rfl; have q4 := cf_cell w c HB1.out 4 _ rfl; have q5 := cf_cell w c HB1.out 5 _ rfl; have q6 := cf_cell w c HB1.out 6 _ rfl; clear hb1)
      | (go_at_call 73; (with_reducible refine (HLS.out _).mono ?_); rintro e w2 ⟨rfl, hb2⟩; have HB2 := Lib.hid (HB1.out.trans (hb2.mono (by have h9 := HB1.out.size; simp at h9; omega))); clear hb2 q0 q1 q2 q3 q4 q5 q6))
    go_loopw [6, 7] (fun l s wr => RWo w c t l s wr) (fun l _ _ => 16 - (match l with | .slice _ n _ => n | _ => 0))
    case atStart => exact ⟨0, 0, none, Nat.zero_le _, rfl, by rw [HAE.out]; simp, Nat.le_refl _, Nat.zero_le _, fun _ => rfl, OwnWn.nil _ _, HB2.out⟩
    case round =>
      obtain ⟨k, cap, A, hk, rfl, rfl, hc1, hc2, hc3, ho, hb⟩ := hrel
      have HBD2 := HBD.out k hk
      have HO := Lib.hid ho
      have HB3 := Lib.hid hb
      have HC := Lib.hid (And.intro hc1 (And.intro hc2 hc3))
      have q1 := cf_cell w c hb 1 _ rfl
      have k16 : k ≤ 16 := by have := H16.out; omega
      clear ho hb hc1 hc2 hc3
      have HNK := Lib.hid (HN.out k)
      rw [← HAE.out] at HNK
      have HX := Lib.hid (HST.out)
      obtain ⟨m, hm⟩ : ∃ m : Int, m = (k : Int) * c.st := ⟨_, rfl⟩
      rw [← hm] at HBD2 HNK
      have HM := Lib.hid hm
      rw [← HAE.out, ← hm]
      clear hm
      have m1 := HBD2.1
      have m2 := HBD2.2
      clear HBD2
      obtain ⟨x, hx⟩ : ∃ x, x = a - m := ⟨_, rfl⟩
      rw [← hx]
      have x1 : x ≤ t := by omega
      have x2 : t - 4294967296 ≤ x := by omega
      have HXE := Lib.hid hx
      clear hx
      by_cases hlt : t - x < c.size
      · have hk1 : k < c.n t := HNK.out.2 (by have := HXE.out; omega)
        have k17 : k + 1 ≤ 16 := by have := H16.out; omega
        have HWK : Hid (fwd c t k ++ [⟨x, x + c.size⟩] = fwd c t (k + 1)) := Lib.hid (by
          rw [HFW.out k]; unfold Cf.w; rw [← HAE.out, ← HM.out, ← HXE.out])
        have HSE : Hid (x - stp' = c.a t - ((k + 1 : Nat) : Int) * c.st) := Lib.hid (by
          rw [show ((k + 1 : Nat) : Int) = (k : Int) + 1 by omega, Int.add_mul, Int.one_mul, ← HM.out, ← HAE.out]
          have h1 := HXE.out; have h2 := HX.out; have h3 := HSP.out; omega)
        go_wp2_with (at_builtin; refine wpList_append_wn rfl _ _ rfl (w.heap.size + 1) A k cap (fwd c t k) rfl (HO.out.below ((Below.refl _ _).alloc (Nat.le_refl _) _) (fun g' off' e => (HO.out.lt g' off' e).1)) (some ⟨wr.heap.size, 0, none⟩) 1 1 [⟨x, x + c.size⟩] rfl rfl (wn_new wr _ [⟨x, x + c.size⟩] _ rfl _ rfl) (fun h => by cases h) (k + 1) rfl (by omega) (by have h9 := HB3.out.size; simp at h9 ⊢; omega) ?_; intro A3 c3 w3 ho3 hc3 hm3 hn3 hb3 hg3 ha3; have HB4 := Lib.hid ((HB3.out.alloc (by have h9 := HB3.out.size; simp at h9; omega) _).trans hb3); have HO3 := Lib.hid ho3; have HC3 := Lib.hid (And.intro hc3 (And.intro hm3 hn3)); have q2 := cf_cell w c HB4.out 2 _ rfl; have q1' := cf_cell w c HB4.out 1 _ rfl; clear ho3 hc3 hm3 hn3 hb3 hg3 ha3 q1)
        go_roundw
        case rel => exact ⟨k + 1, c3, A3, hk1, rfl, by rw [← HSE.out, HSP.out], HC3.out.1, HC3.out.2.1, HC3.out.2.2, by rw [← HWK.out]; exact HO3.out, HB4.out⟩
        case measure => show 16 - (k + 1) < 16 - k; omega
      · have hkn : k = c.n t := by
          have h1 : ¬ k < c.n t := fun h => hlt (by have := HNK.out.1 h; have := HXE.out; omega)
          omega
        have HK1 : Hid (1 ≤ k) := Lib.hid (by rw [hkn]; exact HN1.out)
        have HFE : Hid ((fwd c t k).reverse = wOf c t) := Lib.hid (by rw [hkn]; rfl)
        have HFK : Hid (k = (fwd c t k).length) := Lib.hid (fwd_len c t k).symm
        have HWL : Hid (k = (wOf c t).length) := Lib.hid (by rw [wOf_len]; exact hkn)
        clear hkn
        obtain ⟨g, cp, he, hg1, hg2, -, hH⟩ := wnholds_own HO.out (by have := HK1.out; intro e; injection e with e1 e2 e3; omega)
        injection he with he1 he2 he3
        subst he1
        clear he2
        subst he3
        have HH := Lib.hid hH
        have HREV := Lib.hid (rev_any g cap k (fwd c t k) HFK.out (by omega) wr hH)
        clear hH
        go_wp2_with (go_at_call 74; (with_reducible refine HREV.out.mono ?_); rintro e w5 ⟨rfl, hw5⟩; have HW5 := Lib.hid hw5; clear hw5)
        go_ret
        obtain ⟨q, hq⟩ := HW5.out
        rw [HFE.out] at hq
        refine ⟨some ⟨g, 0, none⟩, k, cap, rfl, HWL.out, ?_, ?_⟩
        · rw [hq]; exact (wnown_put HO.out (by have := HWL.out; have := HFK.out; omega) #[]).less (by omega)
        · rw [hq]; exact below_sortWn (HW0.out.trans (HB3.out.mono (by omega))) (by have h9 := HB3.out.size; simp at h9; omega) (by omega)
theorem of13_any (c : Cf) (h : c.Ok) (t : Int) (t1 : -4398046511104 ≤ t) (t2 : t ≤ 4398046511104) (w : World) : Calls Try.prog 44 #[c.v, .int .i64 t] w (WnRet w (wOf c t)) := by
  by_cases hk : c.kind = 1
  · exact of13_core c h t t1 t2 w true (by simp [hk]) c.step rfl (Lib.hid (by unfold Cf.st; rw [if_pos hk]))
  · exact of13_core c h t t1 t2 w false (by simp; omega) c.size rfl (Lib.hid (by unfold Cf.st; rw [if_neg hk]))
end Go.Proofs.Ytbimfopbilcdgaa
