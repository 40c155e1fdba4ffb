/-
  Layer agg: the least and the greatest do not hang on the order; states joined; a state as bytes.
-/
import Derived.Test.YthklamgdoknmeaaAh
import Derived.Test.YthklamgdoknmeaaOp
set_option linter.unusedSimpArgs false
set_option linter.unusedVariables false
set_option maxRecDepth 8000
namespace Go.Proofs.Ythklamgdoknmeaa
open Go.RowKit Go.WideShapes Col Sm

/-- The least of some numbers. -/
structure IsLo (l : List Nat) (c : Nat) : Prop where
  can : Fl.canon c = c
  mem : ∃ x ∈ l, c = Fl.canon x
  le : ∀ x ∈ l, Fl.rank c ≤ Fl.rank x
theorem IsLo.unique {l m : List Nat} {c d : Nat} (hl : ∀ x ∈ l, x < 18446744073709551616) (hm : ∀ x ∈ m, x < 18446744073709551616) (h : ∀ x, x ∈ l ↔ x ∈ m) (h1 : IsLo l c) (h2 : IsLo m d) : c = d := by
  obtain ⟨x, hx, ex⟩ := h1.mem
  obtain ⟨y, hy, ey⟩ := h2.mem
  have a1 := h1.le y ((h y).2 hy)
  have a2 := h2.le x ((h x).1 hx)
  have e1 : Fl.rank c = Fl.rank x := by rw [ex, Fl.rank_canon]
  have e2 : Fl.rank d = Fl.rank y := by rw [ey, Fl.rank_canon]
  have hr : Fl.rank x = Fl.rank y := by omega
  rw [ex, ey]
  exact (Fl.rank_inj x y (hl x hx) (hm y hy)).1 hr
theorem IsLo.join {l m : List Nat} {c d : Nat} (h1 : IsLo l c) (h2 : IsLo m d) : IsLo (l ++ m) (minC c d) := by
  have e : minC c d = if Fl.rank d < Fl.rank c then d else c := by
    rw [minC_eq, h1.can, h2.can]
    unfold Fl.minv
    split
    · rw [Fl.canon_canon, h2.can]
    · rw [Fl.canon_canon, h1.can]
  rw [e]
  by_cases h : Fl.rank d < Fl.rank c
  · rw [if_pos h]
    obtain ⟨y, hy, ey⟩ := h2.mem
    refine ⟨h2.can, ⟨y, by simp [hy], ey⟩, fun x hx => ?_⟩
    rcases List.mem_append.1 hx with hx | hx
    · have := h1.le x hx; omega
    · exact h2.le x hx
  · rw [if_neg h]
    obtain ⟨y, hy, ey⟩ := h1.mem
    refine ⟨h1.can, ⟨y, by simp [hy], ey⟩, fun x hx => ?_⟩
    rcases List.mem_append.1 hx with hx | hx
    · exact h1.le x hx
    · have := h2.le x hx; omega
theorem IsLo.one (b : Nat) : IsLo [b] (Fl.canon b) := ⟨Fl.canon_canon b, ⟨b, by simp, rfl⟩, fun x hx => by
  have : x = b := by simpa using hx
  subst this; rw [Fl.rank_canon]; exact Nat.le_refl _⟩
theorem accLo_is (l : List Nat) (h : l ≠ []) : IsLo l (accLo l) := by
  revert h
  refine list_snoc (p := fun l => l ≠ [] → IsLo l (accLo l)) (fun h => absurd rfl h) (fun l b ih _ => ?_) l
  by_cases h : l = []
  · subst h; rw [List.nil_append, accLo_one]; exact IsLo.one b
  · rw [accLo_snoc l b h, ← minC_canon]; exact (ih h).join (IsLo.one b)
theorem accLo_append (l m : List Nat) (hl : l ≠ []) (hm : m ≠ []) (h : ∀ x ∈ l ++ m, x < 18446744073709551616) : accLo (l ++ m) = minC (accLo l) (accLo m) :=
  IsLo.unique h h (fun _ => Iff.rfl) (accLo_is _ (by simp [hl])) ((accLo_is l hl).join (accLo_is m hm))
theorem accLo_nil : accLo [] = 0 := by unfold accLo; rfl
theorem accLo_perm {l m : List Nat} (hp : List.Perm l m) (h : ∀ x ∈ l, x < 18446744073709551616) : accLo l = accLo m := by
  by_cases e : l = []
  · subst e; rw [List.nil_perm.1 hp]
  · exact IsLo.unique h (fun x hx => h x (hp.mem_iff.2 hx)) (fun x => hp.mem_iff) (accLo_is l e) (accLo_is m (fun e2 => e (by subst e2; exact List.perm_nil.1 hp)))

/-- The greatest of some numbers. -/
structure IsHi (l : List Nat) (c : Nat) : Prop where
  can : Fl.canon c = c
  mem : ∃ x ∈ l, c = Fl.canon x
  le : ∀ x ∈ l, Fl.rank x ≤ Fl.rank c
theorem IsHi.unique {l m : List Nat} {c d : Nat} (hl : ∀ x ∈ l, x < 18446744073709551616) (hm : ∀ x ∈ m, x < 18446744073709551616) (h : ∀ x, x ∈ l ↔ x ∈ m) (h1 : IsHi l c) (h2 : IsHi m d) : c = d := by
  obtain ⟨x, hx, ex⟩ := h1.mem
  obtain ⟨y, hy, ey⟩ := h2.mem
  have a1 := h1.le y ((h y).2 hy)
  have a2 := h2.le x ((h x).1 hx)
  have e1 : Fl.rank c = Fl.rank x := by rw [ex, Fl.rank_canon]
  have e2 : Fl.rank d = Fl.rank y := by rw [ey, Fl.rank_canon]
  have hr : Fl.rank x = Fl.rank y := by omega
  rw [ex, ey]
  exact (Fl.rank_inj x y (hl x hx) (hm y hy)).1 hr
theorem IsHi.join {l m : List Nat} {c d : Nat} (h1 : IsHi l c) (h2 : IsHi m d) : IsHi (l ++ m) (maxC c d) := by
  have e : maxC c d = if Fl.rank c < Fl.rank d then d else c := by
    rw [maxC_eq, h1.can, h2.can]
    unfold Fl.maxv
    split
    · rw [Fl.canon_canon, h2.can]
    · rw [Fl.canon_canon, h1.can]
  rw [e]
  by_cases h : Fl.rank c < Fl.rank d
  · rw [if_pos h]
    obtain ⟨y, hy, ey⟩ := h2.mem
    refine ⟨h2.can, ⟨y, by simp [hy], ey⟩, fun x hx => ?_⟩
    rcases List.mem_append.1 hx with hx | hx
    · have := h1.le x hx; omega
    · exact h2.le x hx
  · rw [if_neg h]
    obtain ⟨y, hy, ey⟩ := h1.mem
    refine ⟨h1.can, ⟨y, by simp [hy], ey⟩, fun x hx => ?_⟩
    rcases List.mem_append.1 hx with hx | hx
    · exact h1.le x hx
    · have := h2.le x hx; omega
theorem IsHi.one (b : Nat) : IsHi [b] (Fl.canon b) := ⟨Fl.canon_canon b, ⟨b, by simp, rfl⟩, fun x hx => by
  have : x = b := by simpa using hx
  subst this; rw [Fl.rank_canon]; exact Nat.le_refl _⟩
theorem accHi_is (l : List Nat) (h : l ≠ []) : IsHi l (accHi l) := by
  revert h
  refine list_snoc (p := fun l => l ≠ [] → IsHi l (accHi l)) (fun h => absurd rfl h) (fun l b ih _ => ?_) l
  by_cases h : l = []
  · subst h; rw [List.nil_append, accHi_one]; exact IsHi.one b
  · rw [accHi_snoc l b h, ← maxC_canon]; exact (ih h).join (IsHi.one b)
theorem accHi_append (l m : List Nat) (hl : l ≠ []) (hm : m ≠ []) (h : ∀ x ∈ l ++ m, x < 18446744073709551616) : accHi (l ++ m) = maxC (accHi l) (accHi m) :=
  IsHi.unique h h (fun _ => Iff.rfl) (accHi_is _ (by simp [hl])) ((accHi_is l hl).join (accHi_is m hm))
theorem accHi_nil : accHi [] = 0 := by unfold accHi; rfl
theorem accHi_perm {l m : List Nat} (hp : List.Perm l m) (h : ∀ x ∈ l, x < 18446744073709551616) : accHi l = accHi m := by
  by_cases e : l = []
  · subst e; rw [List.nil_perm.1 hp]
  · exact IsHi.unique h (fun x hx => h x (hp.mem_iff.2 hx)) (fun x => hp.mem_iff) (accHi_is l e) (accHi_is m (fun e2 => e (by subst e2; exact List.perm_nil.1 hp)))

theorem joinTL (l m : List Nat) (hl : ∀ x ∈ l, x < 18446744073709551616) (hm : ∀ x ∈ m, x < 18446744073709551616) (hn : l.length + m.length < 1099511627776) (w : World) :
    Calls Try.prog 26 #[.agg (TL l), .agg (TL m)] w fun e w' => e = .returned (.agg (TL (l ++ m))) ∧ Below w.heap.size w w' := by
  have ha := anyH_acc l
  have hb := anyH_acc m
  unfold anyH at ha hb
  by_cases el : l = []
  · subst el
    refine (joinS_l _ _ _ _ _ _ _ _ _ _ ha w).mono ?_
    rintro e w' ⟨he, hbl⟩
    exact ⟨he, hbl⟩
  · have ht : (!l.isEmpty) = true := by cases l <;> simp_all
    rw [ht] at ha
    by_cases em : m = []
    · subst em
      refine (joinS_r _ _ _ _ _ _ _ _ _ _ ha hb w).mono ?_
      rintro e w' ⟨he, hbl⟩
      exact ⟨he.trans (by rw [List.append_nil]), hbl⟩
    · have ht2 : (!m.isEmpty) = true := by cases m <;> simp_all
      rw [ht2] at hb
      refine (joinS_b _ _ _ _ _ _ _ _ _ _ (by omega) (accLo_lt l hl) (accLo_lt m hm) (accHi_lt l hl) (accHi_lt m hm) (acc256 l) (acc256 m) ha hb w).mono ?_
      rintro e w' ⟨he, hbl⟩
      refine ⟨he.trans ?_, hbl⟩
      have hlm : ∀ x ∈ l ++ m, x < 18446744073709551616 := fun x hx => by
        rcases List.mem_append.1 hx with h | h
        · exact hl x h
        · exact hm x h
      unfold TL
      rw [List.length_append, accN_append, accH_append, accLo_append l m el em hlm, accHi_append l m el em hlm]
/-- A sum's bytes; a state's bytes. -/
def sby (N h : Nat) : List Nat := h :: strip (fl280 N 280) 280
theorem strip_len (l : List Nat) : ∀ m, (strip l m).length ≤ m
  | 0 => by unfold strip; simp
  | k + 1 => by
    unfold strip
    split
    · exact Nat.le_succ_of_le (strip_len l k)
    · exact List.length_take_le _ _
theorem sby_len (N h : Nat) : (sby N h).length ≤ 281 := by unfold sby; rw [List.length_cons]; have := strip_len (fl280 N 280) 280; omega
def stBy (n N h lo hi : Nat) : List Nat := ub n ++ (txL (sby N h) ++ (ub lo ++ ub hi))
theorem StAt.belowB {B g n h lo hi : Nat} {f : Nat → Nat} {w w' : World} (H : StAt w g n f h lo hi) (hb : Below B w w') (hg : g < B) : StAt w' g n f h lo hi := (hb.block g hg).trans H

set_option maxHeartbeats 4000000 in
theorem layS_any (n N h lo hi : Nat) (hn : n < 18446744073709551616) (hh : h < 256) (hlo : lo < 18446744073709551616) (hhi : hi < 18446744073709551616) (w : World) :
    Calls Try.prog 27 #[.slice none 0 0, .agg (T39 n (wd N) h lo hi)] w (Puts w.heap.size w (stBy n N h lo hi)) := by
  have q0 := Lib.hid (ub10 hn); have q2 := Lib.hid (ub10 hlo)
  obtain ⟨w0, hw0⟩ : ∃ w0, w0 = w.alloc (.cells (T39 n (wd N) h lo hi) 40) := ⟨_, rfl⟩
  have HB0 : Hid (Below w.heap.size w w0) := Lib.hid (by rw [hw0]; exact (Below.refl _ _).alloc (Nat.le_refl _) _)
  have HT : Hid (StAt w0 w.heap.size n (wd N) h lo hi) := Lib.hid (by rw [hw0]; exact heap_alloc_new' w _)
  have HSZ : Hid (w0.heap.size = w.heap.size + 1) := Lib.hid (by rw [hw0]; simp)
  have HTB : Hid (∀ w', Below w0.heap.size w0 w' → StAt w' w.heap.size n (wd N) h lo hi) := Lib.hid fun w' hk => HT.out.belowB hk (by have := HSZ.out; omega)
  have HZ := Lib.hid hw0
  have c0 : (w.alloc (.cells (T39 n (wd N) h lo hi) 40)).cell? ⟨w.heap.size, 0, none⟩ = some (.int .u64 (n : Int)) := StAt.c0 (g := w.heap.size) (n := n) (f := wd N) (h := h) (lo := lo) (hi := hi) (heap_alloc_new' w _)
  have HSB : Hid (∀ w, Calls Try.prog 17 #[.agg (P36 (wd N) h)] w fun e w' => ∃ A m c, e = .returned (.slice A m c) ∧ OwnS w' w.heap.size A m c (sby N h) ∧ Below w.heap.size w w') := Lib.hid fun w => (sumBytes_any N h hh w).mono fun e w' ⟨A, c, he, ho, hb⟩ => ⟨A, _, c, he, ho, hb⟩
  have HL1 := Lib.hid (sby_len N h)
  clear hw0
  go_enter Try.func27, Try.ntmps27
  go_wp2_with fail
  rw [← HZ.out]
  refine (putU_any w0.heap.size none 0 0 [] n hn w0 (OwnS.nil _ _) (by decide) (Nat.le_refl _)).mono ?_
  rintro e w1 hp
  obtain ⟨A1, n1, c1, rfl, HO1, HB1, hn1⟩ := hp.at
  have hn1' : n1 ≤ 10 := by have := q0.out; rw [hn1]; simpa using this
  clear hp hn1 c0
  have hb1 : w0.heap.size ≤ w1.heap.size := HB1.out.size
  have HS1 := Lib.hid (HTB.out w1 HB1.out)
  go_wp2_with (first
    | (refine wpList_load_sum rfl (.tmp 10) rfl w.heap.size rfl n (wd N) h lo hi HS1.out ?_)
    | (go_at_call 17; (with_reducible refine (HSB.out _).mono ?_); rintro e w2 ⟨A2, m2, c2, rfl, ho2, hb2⟩; have hcv := conv_by m2 c2 ho2.byAt ho2.len; have HW2 : Hid (WfT (sby N h)) := Lib.hid ho2.2; have HB2 := Lib.hid (below_to HB1.out hb2); have HO2 := Lib.hid (HO1.out.keep hb2); clear ho2 hb2))
  refine (putT_any w0.heap.size A1 n1 c1 ([] ++ ub n) (sby N h) HW2.out (by have := HL1.out; omega) w2 HO2 (by omega) HB2.out.size).mono ?_
  rintro e w3 hp
  obtain ⟨A3, n3, c3, rfl, HO3, hb3, hn3⟩ := hp.at
  have HB3 := Lib.hid (HB2.out.trans hb3.out)
  have hn3' : n3 ≤ 310 := by
    have h1 := q0.out
    have h2 := HL1.out
    have h3 := ub10 (n := (sby N h).length) (by omega)
    rw [hn3]; unfold txL; simp only [List.length_append, List.length_nil]; omega
  clear hp hn3 hb3 hcv
  have c2 := (HTB.out w3 HB3.out).c2
  go_wp2_with fail
  refine (putU_any w0.heap.size A3 n3 c3 (([] ++ ub n) ++ txL (sby N h)) lo hlo w3 HO3 (by omega) HB3.out.size).mono ?_
  rintro e w4 hp
  obtain ⟨A4, n4, c4, rfl, HO4, hb4, hn4⟩ := hp.at
  have HB4 := Lib.hid (HB3.out.trans hb4.out)
  have hn4' : n4 ≤ 320 := by
    have h1 := q0.out
    have h2 := HL1.out
    have h3 := ub10 (n := (sby N h).length) (by omega)
    have h4 := q2.out
    rw [hn4]; unfold txL; simp only [List.length_append, List.length_nil]; omega
  clear hp hn4 hb4 c2
  have c3' := (HTB.out w4 HB4.out).c3
  go_wp2_with fail
  refine (putU_any w0.heap.size A4 n4 c4 ((([] ++ ub n) ++ txL (sby N h)) ++ ub lo) hi hhi w4 HO4 (by omega) HB4.out.size).mono ?_
  rintro e w5 hp
  obtain ⟨A5, n5, c5, rfl, HO5, hb5, hn5⟩ := hp.at
  have HB5 := Lib.hid (HB4.out.trans hb5.out)
  clear hp hn5 hb5
  go_wp2
  go_ret
  have he : ((([] ++ ub n) ++ txL (sby N h)) ++ ub lo) ++ ub hi = stBy n N h lo hi := by unfold stBy; simp [List.append_assoc]
  rw [he] at HO5
  exact ⟨A5, n5, c5, rfl, HO5.out.more HB0.out.size, HB0.out.trans (HB5.out.mono HB0.out.size), Nat.le_trans HB0.out.size HB5.out.size⟩
end Go.Proofs.Ythklamgdoknmeaa
