/-
  Layer column: texts as bytes, and back: plain facts.
-/
import Derived.Test.YtpobfgokikfmbaaQPtexts10
import Derived.Shelf.SlicesE.Clone
import Derived.Shelf.Slices.In.SortAlone
import Derived.Shelf.Slices.In.CompactS
import Derived.Shelf.Slices.In.SortNone
import Derived.Sort.OwnSorted
import Derived.Sort.EveryDepth
import Derived.Lib.OwnBridge
import Derived.Lib.RowBridge
import Derived.Shelf.Spec.SearchS
import Derived.Lib.AppendStr
import Derived.Test.YtpobfgokikfmbaaQPtexts9
import Derived.Test.YtpobfgokikfmbaaQPtexts2
set_option linter.unusedSimpArgs false
set_option linter.unusedVariables false
set_option maxRecDepth 8000
namespace Go.Proofs.Ytpobfgokikfmbaa
open Go.RowKit Go.WideShapes Col

theorem tP_back {most : Nat} (s : List Nat) (h : s.length ≤ most) (hl : s.length < 18446744073709551616) (r : List Nat) : tP most (txL s ++ r) = some (s, r) := by
  unfold tP txL
  rw [List.append_assoc, uP_back h hl]
  simp
theorem runS_texts (ts : List (List Nat)) (h : ∀ s ∈ ts, s.length ≤ 32) (r : List Nat) : ∀ k, k ≤ ts.length → runS (tP 32) k ((ts.map txL).flatten ++ r) = some (ts.take k, ((ts.drop k).map txL).flatten ++ r) := by
  intro k
  induction k with
  | zero => intro _; rfl
  | succ k ih =>
    intro hk
    have hlt : k < ts.length := by omega
    have h1 := ih (by omega)
    rw [List.drop_eq_getElem_cons hlt, List.map_cons, List.flatten_cons, List.append_assoc] at h1
    have hs : (ts[k]).length ≤ 32 := h _ (List.getElem_mem hlt)
    rw [runS_some h1 (tP_back _ hs (by omega) _), List.take_add_one, List.getElem?_eq_getElem hlt]
    rfl
theorem rise_rising {l : List (List Nat)} (h : Rise l) : rising l = true := rising_of fun i s t h1 h2 => by
  obtain ⟨a1, a2⟩ := List.getElem?_eq_some_iff.1 h1
  obtain ⟨b1, b2⟩ := List.getElem?_eq_some_iff.1 h2
  have := List.pairwise_iff_getElem.1 h i (i + 1) a1 b1 (by omega)
  rw [a2, b2] at this; exact this
theorem plc_at {all : List (List Nat)} {x : List Nat} (h : x ∈ all) : all[plc all x]? = some x := by
  induction all with
  | nil => cases h
  | cons a r ih =>
    rw [plc]
    by_cases e : a = x
    · rw [if_pos e, e]; rfl
    · rw [if_neg e, List.getElem?_cons_succ]
      exact ih ((List.mem_cons.1 h).resolve_left fun e2 => e e2.symm)
theorem texts_back (l : List (List Nat)) (hw : ∀ x ∈ l, WfT x) (h32 : ∀ x ∈ l, x.length ≤ 32) (hn : l.length ≤ 4096) : rT (textsL l) = some (l, []) := by
  obtain ⟨hr, hm⟩ := uqL_facts l hw
  have hul := uqL_len l
  have h1 : rU (textsL l) = some (uqL l, intsL (l.map fun x => (plc (uqL l) x : Int))) := by
    unfold textsL
    rw [List.append_assoc]
    refine rU_yes (uP_back (by omega) (by omega) _) (n := (uqL l).length) ?_ (rise_rising hr)
    rw [runS_texts (uqL l) (fun s hs => h32 s ((hm s).1 hs)) _ (uqL l).length (Nat.le_refl _), List.take_length, List.drop_length]
    rfl
  have h2 : rI (intsL (l.map fun x => (plc (uqL l) x : Int))) = some (l.map fun x => (plc (uqL l) x : Int), []) := ints_back _ (fun y hy => by
    obtain ⟨x, -, rfl⟩ := List.mem_map.1 hy
    have := plc_le (uqL l) x; unfold Wf64; omega) (by rw [List.length_map]; exact hn)
  have h3 : okT (uqL l) (l.map fun x => (plc (uqL l) x : Int)) = true := by
    have hlt : ∀ x ∈ l, plc (uqL l) x < (uqL l).length := fun x hx => (List.getElem?_eq_some_iff.1 (plc_at ((hm x).2 hx))).1
    rw [okT_end fun k y hy => by
      rw [List.getElem?_map] at hy
      rcases hx : l[k]? with _ | x
      · rw [hx] at hy; cases hy
      · rw [hx] at hy; injection hy with hy; subst hy
        have := hlt x (List.mem_of_getElem? hx); show (0 : Int) ≤ (plc (uqL l) x : Int) ∧ (plc (uqL l) x : Int) < _; omega]
    rw [Bool.not_eq_true', ← Bool.not_eq_true, List.contains_iff_mem]
    intro hf
    unfold usedL at hf
    obtain ⟨i, hi, hf⟩ := List.mem_map.1 hf
    rw [List.mem_range] at hi
    obtain ⟨x, hx⟩ : ∃ x, (uqL l)[i]? = some x := ⟨_, List.getElem?_eq_getElem hi⟩
    have hxl : x ∈ l := (hm x).1 (List.mem_of_getElem? hx)
    have hpi : plc (uqL l) x = i := plc_eq hx (fun hmem => by
      obtain ⟨j, hj⟩ := List.getElem?_of_mem hmem
      rw [List.getElem?_take] at hj
      split at hj
      · rename_i hji
        obtain ⟨a1, a2⟩ := List.getElem?_eq_some_iff.1 hj
        obtain ⟨b1, b2⟩ := List.getElem?_eq_some_iff.1 hx
        have := List.pairwise_iff_getElem.1 hr j i a1 b1 hji
        rw [a2, b2, tls_irr] at this; cases this
      · cases hj)
    have : (l.map fun x => (plc (uqL l) x : Int)).contains (i : Int) = true := List.contains_iff_mem.2 (List.mem_map.2 ⟨x, hxl, by rw [hpi]⟩)
    rw [this] at hf; cases hf
  rw [rT_yes h1 h2 h3, List.map_map]
  congr 2
  refine (List.map_congr_left fun x hx => ?_).trans (List.map_id l)
  exact pickT_at (plc_at ((hm x).2 hx))
end Go.Proofs.Ytpobfgokikfmbaa

set_option linter.unusedSimpArgs false
set_option linter.unusedVariables false
set_option maxRecDepth 8000
namespace Go.Proofs.Ytpobfgokikfmbaa
open Go.RowKit Go.Sort Go.WideShapes Col

def cloT_ren : Go.Shelf.Ren := ⟨fun | 41 => 64 | n => n, fun | 22 => 34 | 23 => 9 | 4 => 4 | n => n, fun n => n⟩
theorem cloT : Go.Proofs.SlLaysE0.n41 Try.prog cloT_ren := {
  mixed := by kernel_rfl
  f41 := ⟨Try.f64.name, by decide, Try.func64.trans (congrArg some (by kernel_rfl))⟩
  t4 := Try.underlying4
  a4 := Try.isAgg4
  z4 := Try.sizeOf4
  v4 := Try.zeroValue4
  t22 := Try.underlying34
  a22 := Try.isAgg34
  z22 := Try.sizeOf34
  v22 := Try.zeroValue34 }
theorem clone_txs (g off n c : Nat) (l : List (List Nat)) (hn : Hid (n = l.length)) (hb : n ≤ 5000) (w : World) (H : Hid (TxAt w (some ⟨g, off, none⟩) l)) (h0 : 0 < n) :
    Calls Try.prog 64 #[.slice (some ⟨g, off, none⟩) n c] w fun e w' => ∃ rb cr, e = .returned (.slice (some ⟨rb, 0, none⟩) n cr) ∧ w.heap.size ≤ rb ∧ OwnX w' w.heap.size (some ⟨rb, 0, none⟩) n cr l ∧ Below w.heap.size w w' := by
  obtain ⟨i0, hi, hz0, hz1, hz2⟩ := info_parts infoStr
  have h := AnyE.slices_Clone cloT i0 _ 1 16 hi hz0 hz1 hz2 rfl (by decide) Try.sizeOf9 g off n c (tvs l) w (by rw [tvs_length, ← hn.out]; omega) (by unfold maxLen; omega) (by omega) (fun j u hu => by
    have := tx_at H.out j u hu
    rwa [Addr.add_lit] at this) (tvs_one l)
  change Calls Try.prog 64 _ _ _ at h
  refine h.mono fun e w' ⟨v', he, hown, hv, hbl⟩ => ?_
  rcases hown.2 with ⟨e0, _⟩ | ⟨rb, cap, cur, e0, hb0, hrest⟩
  · exact absurd e0 hv
  · subst e0
    exact ⟨rb, cap, he, hb0, ⟨hown, H.out.wf⟩, hbl⟩
end Go.Proofs.Ytpobfgokikfmbaa

set_option linter.unusedSimpArgs false
set_option linter.unusedVariables false
set_option maxRecDepth 8000
namespace Go.Proofs.Ytpobfgokikfmbaa
open Go.RowKit Go.Sort Go.WideShapes Col

def sorT_ren : Go.Shelf.Ren := ⟨fun | 125 => 98 | 128 => 122 | 129 => 81 | 190 => 65 | 258 => 97 | 302 => 114 | 303 => 115 | 304 => 116 | 305 => 117 | 306 => 118 | 307 => 119 | 308 => 99 | 309 => 120 | 310 => 121 | 329 => 130 | 330 => 131 | 333 => 129 | 334 => 132 | 335 => 133 | 336 => 123 | 344 => 137 | n => n, fun | 0 => 0 | 3 => 3 | 4 => 4 | 5 => 5 | 9 => 9 | 31 => 34 | 46 => 97 | 51 => 133 | 53 => 57 | 131 => 90 | 182 => 126 | 183 => 127 | 218 => 139 | 222 => 142 | 228 => 146 | 229 => 147 | n => n, fun n => n⟩
theorem sorT : Go.Proofs.Lays.n190 Try.prog sorT_ren := {
  mixed := by kernel_rfl
  f125 := Try.func98.trans (congrArg some (by kernel_rfl))
  f128 := Try.func122.trans (congrArg some (by kernel_rfl))
  f129 := Try.func81.trans (congrArg some (by kernel_rfl))
  f190 := Try.func65.trans (congrArg some (by kernel_rfl))
  f258 := Try.func97.trans (congrArg some (by kernel_rfl))
  f302 := Try.func114.trans (congrArg some (by kernel_rfl))
  f303 := Try.func115.trans (congrArg some (by kernel_rfl))
  f304 := Try.func116.trans (congrArg some (by kernel_rfl))
  f305 := Try.func117.trans (congrArg some (by kernel_rfl))
  f306 := Try.func118.trans (congrArg some (by kernel_rfl))
  f307 := Try.func119.trans (congrArg some (by kernel_rfl))
  f308 := Try.func99.trans (congrArg some (by kernel_rfl))
  f309 := Try.func120.trans (congrArg some (by kernel_rfl))
  f310 := Try.func121.trans (congrArg some (by kernel_rfl))
  f329 := Try.func130.trans (congrArg some (by kernel_rfl))
  f330 := Try.func131.trans (congrArg some (by kernel_rfl))
  f333 := Try.func129.trans (congrArg some (by kernel_rfl))
  f334 := Try.func132.trans (congrArg some (by kernel_rfl))
  f335 := Try.func133.trans (congrArg some (by kernel_rfl))
  f336 := Try.func123.trans (congrArg some (by kernel_rfl))
  f344 := Try.func137.trans (congrArg some (by kernel_rfl))
  t0 := Try.underlying0
  a0 := Try.isAgg0
  z0 := Try.sizeOf0
  v0 := Try.zeroValue0
  t3 := Try.underlying3
  a3 := Try.isAgg3
  z3 := Try.sizeOf3
  v3 := Try.zeroValue3
  t4 := Try.underlying4
  a4 := Try.isAgg4
  z4 := Try.sizeOf4
  v4 := Try.zeroValue4
  t5 := Try.underlying5
  a5 := Try.isAgg5
  z5 := Try.sizeOf5
  v5 := Try.zeroValue5
  t9 := Try.underlying9
  a9 := Try.isAgg9
  z9 := Try.sizeOf9
  v9 := Try.zeroValue9
  t31 := Try.underlying34
  a31 := Try.isAgg34
  z31 := Try.sizeOf34
  v31 := Try.zeroValue34
  t46 := Try.underlying97
  a46 := Try.isAgg97
  z46 := Try.sizeOf97
  v46 := Try.zeroValue97
  t51 := Try.underlying133
  a51 := Try.isAgg133
  z51 := Try.sizeOf133
  v51 := Try.zeroValue133
  t53 := Try.underlying57
  a53 := Try.isAgg57
  z53 := Try.sizeOf57
  v53 := Try.zeroValue57
  t131 := Try.underlying90
  a131 := Try.isAgg90
  z131 := Try.sizeOf90
  v131 := Try.zeroValue90
  t182 := Try.underlying126
  a182 := Try.isAgg126
  z182 := Try.sizeOf126
  v182 := Try.zeroValue126
  t183 := Try.underlying127
  a183 := Try.isAgg127
  z183 := Try.sizeOf127
  v183 := Try.zeroValue127
  t218 := Try.underlying139
  a218 := Try.isAgg139
  z218 := Try.sizeOf139
  v218 := Try.zeroValue139
  t222 := Try.underlying142
  a222 := Try.isAgg142
  z222 := Try.sizeOf142
  v222 := Try.zeroValue142
  t228 := Try.underlying146
  a228 := Try.isAgg146
  z228 := Try.sizeOf146
  v228 := Try.zeroValue146
  t229 := Try.underlying147
  a229 := Try.isAgg147
  z229 := Try.sizeOf147
  v229 := Try.zeroValue147 }
end Go.Proofs.Ytpobfgokikfmbaa

set_option linter.unusedSimpArgs false
set_option linter.unusedVariables false
set_option maxRecDepth 8000
namespace Go.Proofs.Ytpobfgokikfmbaa
open Go.RowKit Go.Sort Go.WideShapes Col

def comT_ren : Go.Shelf.Ren := ⟨fun | 194 => 66 | n => n, fun | 0 => 0 | 3 => 3 | 4 => 4 | 9 => 9 | 31 => 34 | n => n, fun n => n⟩
theorem comT : Go.Proofs.Lays.n194 Try.prog comT_ren := {
  mixed := by kernel_rfl
  f194 := Try.func66.trans (congrArg some (by kernel_rfl))
  t0 := Try.underlying0
  a0 := Try.isAgg0
  z0 := Try.sizeOf0
  v0 := Try.zeroValue0
  t3 := Try.underlying3
  a3 := Try.isAgg3
  z3 := Try.sizeOf3
  v3 := Try.zeroValue3
  t4 := Try.underlying4
  a4 := Try.isAgg4
  z4 := Try.sizeOf4
  v4 := Try.zeroValue4
  t9 := Try.underlying9
  a9 := Try.isAgg9
  z9 := Try.sizeOf9
  v9 := Try.zeroValue9
  t31 := Try.underlying34
  a31 := Try.isAgg34
  z31 := Try.sizeOf34
  v31 := Try.zeroValue34 }
end Go.Proofs.Ytpobfgokikfmbaa

set_option linter.unusedSimpArgs false
set_option linter.unusedVariables false
set_option maxRecDepth 8000
namespace Go.Proofs.Ytpobfgokikfmbaa
open Go.RowKit Go.Sort Go.WideShapes Col

theorem com_facts (zs : List (List UInt8)) (hs : zs.Pairwise (· ≤ ·)) : ∀ m, m ≤ zs.length → (Go.Lib.compactUpTo zs.toArray m).Pairwise (· < ·) ∧ ∀ y, y ∈ Go.Lib.compactUpTo zs.toArray m ↔ y ∈ zs.take m := by
  intro m
  induction m with
  | zero => intro _; exact ⟨List.Pairwise.nil, fun y => by rw [List.take_zero]; exact Iff.rfl⟩
  | succ m ih =>
    intro hm
    obtain ⟨h1, h2⟩ := ih (by omega)
    have hlt : m < zs.length := by omega
    have ed : ∀ j, (hj : j < zs.length) → zs.toArray[j]! = zs[j] := fun j hj => by simp [hj]
    have et : zs.take (m + 1) = zs.take m ++ [zs[m]] := by rw [List.take_add_one, List.getElem?_eq_getElem hlt]; rfl
    rw [Go.Lib.compactUpTo_succ, et]
    have hle : ∀ y ∈ zs.take m, y ≤ zs[m] := fun y hy => by
      obtain ⟨j, hj⟩ := List.getElem?_of_mem hy
      rw [List.getElem?_take] at hj
      split at hj
      · rename_i hjm
        obtain ⟨a1, a2⟩ := List.getElem?_eq_some_iff.1 hj
        have := List.pairwise_iff_getElem.1 hs j m a1 hlt hjm
        rw [a2] at this; exact this
      · cases hj
    by_cases hk : Go.Lib.keeps zs.toArray m = true
    · rw [if_pos hk, ed m hlt]
      refine ⟨List.pairwise_append.2 ⟨h1, List.pairwise_singleton _ _, fun y hy z hz => ?_⟩, fun y => by rw [List.mem_append, List.mem_append, h2]⟩
      rw [List.mem_singleton] at hz; subst hz
      have hyt := (h2 y).1 hy
      have hya := hle y hyt
      have hne : y ≠ zs[m] := fun e => by
        unfold Go.Lib.keeps at hk
        rcases of_decide_eq_true hk with h0 | h0
        · subst h0; rw [List.take_zero] at hyt; cases hyt
        · have hm0 : 0 < m := by
            rcases Nat.eq_zero_or_pos m with e0 | e0
            · subst e0; rw [List.take_zero] at hyt; cases hyt
            · exact e0
          rw [ed m hlt, ed (m - 1) (by omega)] at h0
          have hp : zs[m - 1] ≤ zs[m] := List.pairwise_iff_getElem.1 hs (m - 1) m (by omega) hlt (by omega)
          obtain ⟨j, hj⟩ := List.getElem?_of_mem hyt
          rw [List.getElem?_take] at hj
          split at hj
          · rename_i hjm
            obtain ⟨a1, a2⟩ := List.getElem?_eq_some_iff.1 hj
            have hq : zs[m] ≤ zs[m - 1] := by
              rw [← e, ← a2]
              by_cases ej : j = m - 1
              · subst ej; exact List.le_refl _
              · exact List.pairwise_iff_getElem.1 hs j (m - 1) a1 (by omega) (by omega)
            exact h0 (List.le_antisymm hq hp)
          · cases hj
      exact Classical.byContradiction fun h => hne (List.le_antisymm hya (List.not_lt.1 h))
    · rw [if_neg hk, List.append_nil]
      refine ⟨h1, fun y => ?_⟩
      rw [h2, List.mem_append, List.mem_singleton]
      refine ⟨Or.inl, fun h => h.elim id fun e => ?_⟩
      subst e
      unfold Go.Lib.keeps at hk
      have hk : ¬ (m = 0 ∨ zs.toArray[m]! ≠ zs.toArray[m - 1]!) := fun h => hk (decide_eq_true h)
      have hm0 : m ≠ 0 := fun e => hk (.inl e)
      have he : zs.toArray[m]! = zs.toArray[m - 1]! := Classical.not_not.1 fun e => hk (.inr e)
      rw [ed m hlt, ed (m - 1) (by omega)] at he
      rw [he]
      exact List.mem_of_getElem? (i := m - 1) (by rw [List.getElem?_take, if_pos (by omega), List.getElem?_eq_getElem])
end Go.Proofs.Ytpobfgokikfmbaa

set_option linter.unusedSimpArgs false
set_option linter.unusedVariables false
set_option maxRecDepth 8000
namespace Go.Proofs.Ytpobfgokikfmbaa
open Go.RowKit Go.Sort Go.WideShapes Col

/-- A text's bytes as the shelf has them, and back. -/
def tb (x : List Nat) : List UInt8 := (strB x).data.toList
def nb (z : List UInt8) : List Nat := z.map UInt8.toNat
theorem nb_wf (z : List UInt8) : WfT (nb z) := fun c hc => by
  obtain ⟨u, -, rfl⟩ := List.mem_map.1 hc
  exact u.toNat_lt
theorem tb_nb (z : List UInt8) : tb (nb z) = z := by
  unfold tb nb strB
  rw [strOfNums_data, List.map_map, List.map_map]
  conv => rhs; rw [← List.map_id z]
  refine List.map_congr_left fun u _ => ?_
  simp
theorem tb_inj {x y : List Nat} (hx : WfT x) (hy : WfT y) (h : tb x = tb y) : x = y := by
  refine strB_inj hx hy ?_
  exact ByteArray.ext (Array.ext' h)
theorem nb_tb {x : List Nat} (hx : WfT x) : nb (tb x) = x := tb_inj (nb_wf _) hx (tb_nb _)
theorem tvs_tb (l : List (List Nat)) : (l.map tb).map encStr = tvs l := by
  have h := Go.Lib.map_encStr (l.map strB)
  simp only [List.map_map] at h
  unfold tvs
  rw [List.map_map]
  exact h
theorem tvs_nb (zs : List (List UInt8)) : tvs (zs.map nb) = zs.map encStr := by
  have e : (zs.map nb).map tb = zs := by
    rw [List.map_map]
    conv => rhs; rw [← List.map_id zs]
    exact List.map_congr_left fun z _ => tb_nb z
  rw [← tvs_tb, e]
def srtZ (zs : List (List UInt8)) : List (List UInt8) := zs.mergeSort fun x y => decide (x ≤ y)
theorem srtZ_len (zs : List (List UInt8)) : (srtZ zs).length = zs.length := List.length_mergeSort zs
/-- Those that there are, rising. -/
def uqZ (l : List (List Nat)) : List (List Nat) := (Go.Lib.compact (srtZ (l.map tb))).map nb
theorem rise_of {zs : List (List UInt8)} (h : zs.Pairwise (· < ·)) : Rise (zs.map nb) := by
  unfold Rise
  rw [List.pairwise_map]
  refine h.imp fun {a b} hab => ?_
  rw [tls_dec, decide_eq_true_eq, Lib.toList_data, Lib.toList_data]
  have ea := tb_nb a
  have eb := tb_nb b
  unfold tb at ea eb
  rw [ea, eb]
  exact hab
theorem uqZ_eq (l : List (List Nat)) (hw : ∀ x ∈ l, WfT x) : uqZ l = uqL l := by
  obtain ⟨hr, hm⟩ := uqL_facts l hw
  have hs : (srtZ (l.map tb)).Pairwise (· ≤ ·) := by
    have h := List.pairwise_mergeSort (le := fun x y : List UInt8 => decide (x ≤ y)) (fun a b c h1 h2 => by
      rw [decide_eq_true_eq] at h1 h2 ⊢
      exact List.le_trans h1 h2) (fun a b => by
      rw [Bool.or_eq_true, decide_eq_true_eq, decide_eq_true_eq]
      exact List.le_total a b) (l.map tb)
    exact h.imp fun {a b} hab => of_decide_eq_true hab
  obtain ⟨h1, h2⟩ := com_facts _ hs _ (Nat.le_refl _)
  refine rise_ext (rise_of h1) hr fun y => ?_
  rw [hm]
  unfold uqZ
  rw [List.mem_map]
  constructor
  · rintro ⟨z, hz, rfl⟩
    have h3 := (h2 z).1 hz
    rw [List.take_length] at h3
    have h4 := (List.mergeSort_perm (l.map tb) _).mem_iff.1 h3
    obtain ⟨x, hx, rfl⟩ := List.mem_map.1 h4
    rw [nb_tb (hw x hx)]; exact hx
  · intro hy
    refine ⟨tb y, (h2 _).2 ?_, nb_tb (hw y hy)⟩
    rw [List.take_length]
    exact (List.mergeSort_perm (l.map tb) _).mem_iff.2 (List.mem_map.2 ⟨y, hy, rfl⟩)
theorem sort_txs (B g n c : Nat) (l : List (List Nat)) (hn5 : n ≤ 5000) (w : World) (H : Hid (OwnX w B (some ⟨g, 0, none⟩) n c l)) (hB : B ≤ w.heap.size) :
    Calls Try.prog 65 #[.slice (some ⟨g, 0, none⟩) n c] w fun e w' => e = .returned (.tuple #[]) ∧ OwnX w' B (some ⟨g, 0, none⟩) n c ((srtZ (l.map tb)).map nb) ∧ Below B w w' := by
  obtain ⟨hown, hwf⟩ := H.out
  rw [← tvs_tb] at hown
  obtain ⟨g', cap, he, hbg, hgl, hnc, hcm, hlen, hH⟩ := Go.Lib.holds_of_ownsRow hown (by simp)
  cases he
  have h : Calls Try.prog (sorT_ren.f 190) _ w _ := calls_of_every_depth fun D => AnyS.slices_Sort_string_alone sorT D g 0 c (l.map tb) w hH hgl (by omega)
  rw [hlen] at h
  change Calls Try.prog 65 _ _ _ at h
  refine h.mono fun e w' ⟨he, nn, os, hw⟩ => ⟨he, ⟨?_, fun x hx => ?_⟩, ?_⟩
  · rcases hown.2 with ⟨e0, _⟩ | ⟨g', cap', cur, e0, hb, hrow, h1, h2, h3, h4⟩
    · cases e0
    · cases e0
      have h5 := ownsRow_sorted (n := nn) (os := os) (ts := srtZ (l.map tb)) (ss := l.map tb) (srtZ_len _) hb hrow (by rw [hlen]; exact h1) h2 h3
      rw [hlen] at h5
      rw [tvs_nb, hw]
      exact h5
  · obtain ⟨z, -, rfl⟩ := List.mem_map.1 hx
    exact nb_wf z
  · rw [hw]
    exact (Below.refl B w).grown (grownBy_sorted _) hB (fun k hk => by injection hk with hk; omega)
theorem compact_txs (B g n c : Nat) (zs : List (List UInt8)) (hn5 : n ≤ 5000) (w : World) (H : Hid (OwnX w B (some ⟨g, 0, none⟩) n c (zs.map nb))) :
    Calls Try.prog 66 #[.slice (some ⟨g, 0, none⟩) n c] w fun e w' => e = .returned (.slice (some ⟨g, 0, none⟩) (Go.Lib.compact zs).length c) ∧ OwnX w' B (some ⟨g, 0, none⟩) (Go.Lib.compact zs).length c ((Go.Lib.compact zs).map nb) ∧ Below B w w' := by
  obtain ⟨hown, hwf⟩ := H.out
  rw [tvs_nb] at hown
  obtain ⟨g', cap, he, hbg, hgl, hnc, hcm, hlen, hH⟩ := Go.Lib.holds_of_ownsRow hown (by simp)
  cases he
  have hle := Go.Lib.compact_length_le zs
  have h : Calls Try.prog (comT_ren.f 194) _ w _ := calls_of_every_depth fun D => AnyS.slices_Compact_string_in comT D g 0 c zs w hH (by omega) (by omega)
  rw [hlen] at h
  change Calls Try.prog 66 _ _ _ at h
  refine h.mono fun e w' ⟨he, q, hw⟩ => ⟨he, ⟨?_, fun x hx => ?_⟩, ?_⟩
  · have hc := Go.Lib.ownsRow_putRow (q := q) (k := (Go.Lib.compact zs).length) (ys := Go.Lib.compact zs ++ List.replicate (n - (Go.Lib.compact zs).length) []) hown (by rw [List.length_append, List.length_replicate]; omega) (by omega)
    rw [List.take_left] at hc
    rw [tvs_nb, hw]
    exact hc
  · obtain ⟨z, -, rfl⟩ := List.mem_map.1 hx
    exact nb_wf z
  · rw [hw]
    exact Go.Lib.below_putRow (Below.refl B w) hbg
theorem clone_zeroX (a : Addr) (c : Nat) (w : World) :
    Calls Try.prog 64 #[.slice (some a) 0 c] w fun e w' => ∃ A1 c1, e = .returned (.slice A1 0 c1) ∧ OwnX w' w.heap.size A1 0 c1 [] ∧ Below w.heap.size w w' := by
  have q22 : ∀ w : World, (binOp .eql 34 (.slice (some a) 0 c) (.slice none 0 0)).run Try.prog w = .ok (.bool false) w := fun w => Lib.run_eql_slice_nil w _ _ (some a) 0 c 0 0 Try.underlying34
  have hO : OwnX (w.alloc (.cells #[] 9)) w.heap.size (some ⟨w.heap.size, 0, none⟩) 0 0 [] := ⟨⟨rfl, .inr ⟨w.heap.size, 0, #[], rfl, Nat.le_refl _, heap_alloc_new' w _, Nat.le_refl _, Nat.zero_le _, rfl, rfl⟩⟩, fun x hx => by cases hx⟩
  have HB0 := (Below.refl w.heap.size w).alloc (Nat.le_refl _) (.cells #[] 9)
  have hsz : w.heap.size ≤ (w.alloc (.cells #[] 9)).heap.size := HB0.size
  go_enter Try.func64, Try.ntmps64
  go_wp2
  go_ret
  exact ⟨_, _, rfl, hO, HB0⟩
/-- Of any texts, none of them too. -/
theorem clone_anyX (A0 : Option Addr) (n c : Nat) (l : List (List Nat)) (hn : Hid (n = l.length)) (hb : n ≤ 5000) (w : World) (H : Hid (TxAt w A0 l)) :
    Calls Try.prog 64 #[.slice A0 n c] w fun e w' => ∃ A1 c1, e = .returned (.slice A1 n c1) ∧ OwnX w' w.heap.size A1 n c1 l ∧ Below w.heap.size w w' := by
  rcases A0 with _ | a
  · have hl : l = [] := by
      rcases l with _ | ⟨x, r⟩
      · rfl
      · obtain ⟨-, g, off, e, -⟩ := H.out 0 x rfl; cases e
    subst hl
    have h0 : n = 0 := hn.out
    subst h0
    have h := AnyE.slices_Clone_nil cloT 0 c w
    change Calls Try.prog 64 _ _ _ at h
    exact h.mono fun e w' ⟨he, hw⟩ => ⟨none, 0, he, OwnX.nil _ _, by rw [hw]; exact Below.refl _ _⟩
  · by_cases h0 : 0 < n
    · obtain ⟨g, off, e, -, -⟩ := H.out.spot (by have := hn.out; omega)
      cases e
      exact (clone_txs g off n c l hn hb w H h0).mono fun e w' ⟨rb, cr, he, _, ho, hbl⟩ => ⟨_, _, he, ho, hbl⟩
    · have h0 : n = 0 := by omega
      subst h0
      have hl : l = [] := List.eq_nil_of_length_eq_zero hn.out.symm
      subst hl
      exact clone_zeroX a c w
theorem sort_anyX (B : Nat) (A : Option Addr) (n c : Nat) (l : List (List Nat)) (hn5 : n ≤ 5000) (w : World) (H : Hid (OwnX w B A n c l)) (hB : B ≤ w.heap.size) :
    Calls Try.prog 65 #[.slice A n c] w fun e w' => e = .returned (.tuple #[]) ∧ OwnX w' B A n c ((srtZ (l.map tb)).map nb) ∧ Below B w w' := by
  rcases H.out.1.2 with ⟨e0, h0⟩ | ⟨g, cap', cur, e0, hb, hrow, h1, h2, h3, h4⟩
  · cases e0
    have hl : l = [] := List.eq_nil_of_length_eq_zero H.out.len.symm
    subst hl
    have h : Calls Try.prog (sorT_ren.f 190) _ w _ := calls_of_every_depth fun D => AnyS.slices_Sort_string_none_alone sorT D none 0 w
    change Calls Try.prog 65 _ _ _ at h
    have e0 : srtZ [] = [] := List.eq_nil_of_length_eq_zero (srtZ_len [])
    rw [List.map_nil, e0]
    exact h.mono fun e w' ⟨he, hw⟩ => ⟨he, by rw [hw]; exact OwnX.nil _ _, by rw [hw]; exact Below.refl _ _⟩
  · cases e0
    exact sort_txs B g n c l hn5 w H hB
theorem compact_anyX (B : Nat) (A : Option Addr) (n c : Nat) (zs : List (List UInt8)) (hn5 : n ≤ 5000) (w : World) (H : Hid (OwnX w B A n c (zs.map nb))) :
    Calls Try.prog 66 #[.slice A n c] w fun e w' => ∃ A1 m, e = .returned (.slice A1 m c) ∧ OwnX w' B A1 m c ((Go.Lib.compact zs).map nb) ∧ Below B w w' := by
  rcases H.out.1.2 with ⟨e0, h0⟩ | ⟨g, cap', cur, e0, hb, hrow, h1, h2, h3, h4⟩
  · cases e0
    have hl : zs = [] := by
      have := H.out.len
      rw [List.length_map] at this
      exact List.eq_nil_of_length_eq_zero this.symm
    subst hl
    have h : Calls Try.prog (comT_ren.f 194) _ w _ := calls_of_every_depth fun D => AnyS.slices_Compact_string_empty_in comT D none 0 w
    change Calls Try.prog 66 _ _ _ at h
    exact h.mono fun e w' ⟨he, hw⟩ => ⟨none, 0, he, by rw [hw]; exact OwnX.nil _ _, by rw [hw]; exact Below.refl _ _⟩
  · cases e0
    exact (compact_txs B g n c zs hn5 w H).mono fun e w' ⟨he, ho, hb⟩ => ⟨_, _, he, ho, hb⟩
end Go.Proofs.Ytpobfgokikfmbaa

set_option linter.unusedSimpArgs false
set_option linter.unusedVariables false
set_option maxRecDepth 8000
namespace Go.Proofs.Ytpobfgokikfmbaa
open Go.RowKit Go.Sort Go.WideShapes Col

def binT_ren : Go.Shelf.Ren := ⟨fun | 26 => 68 | 33 => 99 | 34 => 100 | 38 => 123 | n => n, fun | 0 => 0 | 3 => 3 | 4 => 4 | 9 => 9 | 24 => 34 | 40 => 97 | n => n, fun n => n⟩
theorem binT : Go.Proofs.Lays2.n26 Try.prog binT_ren := {
  mixed := by kernel_rfl
  f26 := Try.func68.trans (congrArg some (by kernel_rfl))
  f33 := Try.func99.trans (congrArg some (by kernel_rfl))
  f34 := Try.func100.trans (congrArg some (by kernel_rfl))
  f38 := Try.func123.trans (congrArg some (by kernel_rfl))
  t0 := Try.underlying0
  a0 := Try.isAgg0
  z0 := Try.sizeOf0
  v0 := Try.zeroValue0
  t3 := Try.underlying3
  a3 := Try.isAgg3
  z3 := Try.sizeOf3
  v3 := Try.zeroValue3
  t4 := Try.underlying4
  a4 := Try.isAgg4
  z4 := Try.sizeOf4
  v4 := Try.zeroValue4
  t9 := Try.underlying9
  a9 := Try.isAgg9
  z9 := Try.sizeOf9
  v9 := Try.zeroValue9
  t24 := Try.underlying34
  a24 := Try.isAgg34
  z24 := Try.sizeOf34
  v24 := Try.zeroValue34
  t40 := Try.underlying97
  a40 := Try.isAgg97
  z40 := Try.sizeOf97
  v40 := Try.zeroValue97 }
end Go.Proofs.Ytpobfgokikfmbaa

set_option linter.unusedSimpArgs false
set_option linter.unusedVariables false
set_option maxRecDepth 8000
namespace Go.Proofs.Ytpobfgokikfmbaa
open Go.RowKit Go.Sort Go.WideShapes Col

theorem bin_any (g off n c : Nat) (all : List (List Nat)) (hn : n = all.length) (hn5 : n ≤ 5000) (hr : Rise all) (x : List Nat) (hx : x ∈ all) (w : World) (H : TxAt w (some ⟨g, off, none⟩) all) :
    Calls Try.prog 68 #[.slice (some ⟨g, off, none⟩) n c, .string (strB x)] w fun e w' => e = .returned (.tuple #[.int .i64 (plc all x : Int), .bool true]) ∧ Below w.heap.size w w' := by
  have hat := plc_at hx
  obtain ⟨hk, hkx⟩ := List.getElem?_eq_some_iff.1 hat
  have hget : ∀ t, t < all.length → ∃ a, all[t]? = some a ∧ all.getD t x = a := fun t ht => ⟨_, List.getElem?_eq_getElem ht, by rw [List.getD_eq_getElem?_getD, List.getElem?_eq_getElem ht]; rfl⟩
  have hs := Go.Lib.bsGo_spec (fun t => Op.bytesLess (strB (all.getD t x)).toList (strB x).toList) (plc all x) (fun t ht => by
      obtain ⟨a, h1, h2⟩ := hget t (by omega)
      show tls (all.getD t x) x = true
      rw [h2]
      obtain ⟨a1, a2⟩ := List.getElem?_eq_some_iff.1 h1
      have := List.pairwise_iff_getElem.1 hr t (plc all x) a1 hk ht
      rw [a2, hkx] at this; exact this) (fun t ht => by
      show tls (all.getD t x) x = false
      rcases Nat.lt_or_ge t all.length with h3 | h3
      · obtain ⟨a, h1, h2⟩ := hget t h3
        rw [h2]
        obtain ⟨a1, a2⟩ := List.getElem?_eq_some_iff.1 h1
        by_cases e : t = plc all x
        · subst e; rw [← a2, hkx]; exact tls_irr x
        · have := List.pairwise_iff_getElem.1 hr (plc all x) t hk a1 (by omega)
          rw [a2, hkx] at this; exact tls_asy this
      · rw [List.getD_eq_getElem?_getD, List.getElem?_eq_none h3]; exact tls_irr x) n 0 n (by omega) (Nat.zero_le _) (by omega)
  have h := Any2.slices_BinarySearch_string binT g off n c (fun t => strB (all.getD t x)) (strB x) w (by omega) (fun j hj => by
    obtain ⟨a, h1, h2⟩ := hget j (by omega)
    obtain ⟨-, g', off', e, -, hc⟩ := H j a h1
    injection e with e; injection e with e1 e2; subst e1; subst e2
    rw [h2]; exact hc)
  rw [hs] at h
  change Calls Try.prog 68 _ _ _ at h
  refine h.mono fun e w' ⟨he, q, hw⟩ => ⟨?_, by rw [hw]; exact ⟨rfl, rfl, rfl, Nat.le_refl _, fun _ _ => rfl⟩⟩
  rw [he]
  have hd : decide (plc all x < n ∧ (fun t => strB (all.getD t x)) (plc all x) = strB x) = true := decide_eq_true ⟨by omega, by
    show strB (all.getD (plc all x) x) = strB x
    rw [List.getD_eq_getElem?_getD, hat]; rfl⟩
  rw [hd]
end Go.Proofs.Ytpobfgokikfmbaa

set_option linter.unusedSimpArgs false
set_option linter.unusedVariables false
set_option maxRecDepth 8000
namespace Go.Proofs.Ytpobfgokikfmbaa
open Go.RowKit Go.WideShapes Col

theorem strCells_by (s : List Nat) (hs : WfT s) : Go.Lib.strCells (strB s) = bys s := by
  unfold Go.Lib.strCells strB bys
  rw [strOfNums_data, List.map_map, List.map_map]
  refine List.map_congr_left fun x hx => ?_
  show Value.int .u8 ((UInt8.ofNat (Int.ofNat x).toNat).toNat : Int) = .int .u8 (x : Int)
  rw [show (Int.ofNat x).toNat = x from rfl, UInt8.toNat_ofNat_of_lt' (by simpa using hs x hx)]
theorem ownStr {w : World} {B n : Nat} {v : Value} {l : List Value} (h : w.ownsRow B 5 1 v n l) : ∃ A cap, v = .slice A n cap := by
  rcases h.2 with ⟨e0, e1⟩ | ⟨g, cap', cur, e0, -⟩
  · exact ⟨none, 0, by rw [e0, e1]⟩
  · exact ⟨_, _, e0⟩
theorem ownB {w : World} {B n cap : Nat} {A : Option Addr} {l : List Nat} (h : OwnS w B A n cap l) : ∀ k, (Value.slice A n cap).ownBlock = some k → B ≤ k := fun k hk => by
  rcases A with _ | a
  · cases hk
  · exact h.base k (by simpa [Value.ownBlock] using hk)
set_option maxHeartbeats 2000000 in
theorem putT_any (B : Nat) (A : Option Addr) (n cap : Nat) (l s : List Nat) (hs : WfT s) (hl : s.length ≤ 1000000) (w : World) (H : Hid (OwnS w B A n cap l)) (hn : n ≤ 1099511627776) (hB : B ≤ w.heap.size) :
    Calls Try.prog 67 #[.slice A n cap, .string (strB s)] w (Puts B w (l ++ txL s)) := by
  obtain ⟨m, hm⟩ : ∃ m, m = s.length := ⟨_, rfl⟩
  have hsz : (strB s).size = m := by rw [strB_size, hm]
  have HSZ := Lib.hid hsz
  have hmw : IntKind.u64.wrap (m : Int) = (m : Int) := by rw [IntKind.wrap_u64]; omega
  have HU := Lib.hid (putU_any B A n cap l m (by omega) w H hn hB)
  have H10 : Hid ((ub m).length ≤ 10) := Lib.hid (ub10 (show m < 18446744073709551616 by omega))
  have HWS := Lib.hid hs
  have HM := Lib.hid hm
  have HLN : Hid (n = l.length) := Lib.hid H.out.len
  have hml : m ≤ 1000000 := by omega
  obtain ⟨i0, hi, hz0, hz1, hz2⟩ := info_parts infoU8
  have HI := Lib.hid (And.intro hi (And.intro hz0 (And.intro hz1 hz2)))
  clear hs hm hl hi hz0 hz1 hz2
  go_enter Try.func67, Try.ntmps67
  go_wp2_with (first
    | (go_at_call 47; (with_reducible refine (HU.out).mono ?_); rintro e w2 hp; obtain ⟨A2, n2, c2, rfl, HO2, HB2, hn2⟩ := hp.at; have HN2 := Lib.hid hn2; have hn10 : n2 ≤ n + 10 := (by have := H10.out; have := HLN.out; rw [hn2, List.length_append]; omega); have hB2 : B ≤ w2.heap.size := Nat.le_trans hB HB2.out.size; clear hp hn2)
    | (at_builtin; refine Go.Lib.wpList_append_own_string _ rfl (.tmp 9) (.tmp 10) 24 9 rfl B 5 i0 Try.underlying24 Try.underlying9 HI.out.1 HI.out.2.1 HI.out.2.2.1 HI.out.2.2.2 (.slice A2 n2 c2) n2 _ rfl HO2.out.1 (strB s) rfl (by rw [HSZ.out]; unfold maxLen; omega) (by rw [HSZ.out]; omega) hB2 ?_; intro v4 w4 ho4 hg4 hr4; rw [HSZ.out, strCells_by s HWS.out] at ho4; obtain ⟨A5, c5, hv4⟩ := ownStr ho4; subst hv4; have HO4 := Lib.hid ho4; have HB4 := Lib.hid (HB2.out.grown hg4 hB2 (ownB HO2.out)); clear ho4 hg4 hr4))
  have ho := HO4.out
  rw [show bys (l ++ ub m) ++ bys s = bys (l ++ txL s) by unfold txL bys; rw [← HM.out]; simp] at ho
  go_ret
  refine ⟨A5, _, c5, rfl, ⟨ho, fun x hx => ?_⟩, HB4.out, HB4.out.size⟩
  rcases List.mem_append.1 hx with h | h
  · exact H.out.2 x h
  · unfold txL at h
    rcases List.mem_append.1 h with h2 | h2
    · exact HO2.out.2 x (List.mem_append.2 (.inr (by rw [HM.out]; exact h2)))
    · exact HWS.out x h2
end Go.Proofs.Ytpobfgokikfmbaa

set_option linter.unusedSimpArgs false
set_option linter.unusedVariables false
set_option maxRecDepth 8000
namespace Go.Proofs.Ytpobfgokikfmbaa
open Go.RowKit Go.Sort Go.WideShapes Col

theorem flat_snoc (m : Nat) (all : List (List Nat)) (j : Nat) (s : List Nat) (h : all[j]? = some s) : ub m ++ ((all.take j).map txL).flatten ++ txL s = ub m ++ ((all.take (j + 1)).map txL).flatten := by
  rw [List.take_add_one, h]
  simp
theorem plc_wf (all : List (List Nat)) (hn : all.length ≤ 5000) (x : List Nat) : Wf64 (plc all x : Int) := by
  have := plc_le all x
  exact ⟨by omega, by omega⟩
theorem plc_snoc (all l : List (List Nat)) (k : Nat) (x : List Nat) (h : l[k]? = some x) : (l.map fun x => (plc all x : Int)).take (k + 1) = (l.map fun x => (plc all x : Int)).take k ++ [(plc all x : Int)] := by
  rw [List.take_add_one, List.getElem?_map, h]; rfl
set_option maxHeartbeats 8000000 in
theorem textsC_any (A0 : Option Addr) (n c : Nat) (l : List (List Nat)) (hn : Hid (n = l.length)) (hn5 : n ≤ 4096) (hl1 : Hid (∀ y ∈ l, y.length ≤ 1000000)) (W : World) (HL : Hid (TxAt W A0 l)) :
    Calls Try.prog 25 #[.slice A0 n c] W (Puts W.heap.size W (textsL l)) := by
  obtain ⟨iu, hiu, hz0, hz1, hz2⟩ := info_parts infoI64'
  have hzb : iu.bytes * n ≤ 281474976710656 := by rw [hz2]; omega
  have hnm : n ≤ maxLen := by unfold maxLen; omega
  have HWT : Hid (∀ y ∈ l, WfT y) := Lib.hid HL.out.wf
  have HEQ : Hid ((Go.Lib.compact (srtZ (l.map tb))).map nb = uqL l) := Lib.hid (uqZ_eq l HWT.out)
  obtain ⟨ur, hum⟩ := uqL_facts l HWT.out
  have HUR := Lib.hid ur; have HUM := Lib.hid hum
  have HUN : Hid ((uqL l).length ≤ 4096) := Lib.hid (Nat.le_trans (uqL_len l) (by have := hn.out; omega))
  have HUW : Hid (∀ y ∈ uqL l, WfT y ∧ y.length ≤ 1000000) := Lib.hid fun y hy => ⟨uqL_wf HWT.out y hy, hl1.out y ((HUM.out y).1 hy)⟩
  obtain ⟨all, hall⟩ : ∃ all, all = uqL l := ⟨_, rfl⟩
  have HXT : Hid (textsL l = ub all.length ++ (all.map txL).flatten ++ intsL (l.map fun x => (plc all x : Int))) := Lib.hid (by rw [hall]; rfl)
  rw [← hall] at HEQ HUR HUM HUN HUW
  clear hall ur hum
  go_enter Try.func25, Try.ntmps25
  go_wp2_with (first
    | (go_at_call 64; refine (clone_anyX A0 n c l hn (by omega) _ HL).mono ?_; rintro e w1 ⟨A1, c1, rfl, ho, hb⟩; have HO1 := Lib.hid ho; have HB1 := Lib.hid hb; clear ho hb)
    | (go_at_call 65; refine (sort_anyX W.heap.size A1 n c1 l (by omega) _ HO1 HB1.out.size).mono ?_; rintro e w2 ⟨rfl, ho, hb⟩; have HO2 := Lib.hid ho; have HB2 := Lib.hid (HB1.out.trans hb); clear ho hb)
    | (go_at_call 66; refine (compact_anyX W.heap.size A1 n c1 (srtZ (l.map tb)) (by omega) _ HO2).mono ?_; rintro e w3 ⟨Au, m, rfl, ho, hb⟩; rw [HEQ.out] at ho; have HOX := Lib.hid ho; have HB3 := Lib.hid (HB2.out.trans hb); have HML := Lib.hid ho.len; have hm4 : m ≤ 4096 := (by have := HML.out; have := HUN.out; omega); have hmw : IntKind.u64.wrap (m : Int) = (m : Int) := (by rw [IntKind.wrap_u64]; omega); clear ho hb)
    | (go_at_call 47; refine (putU_any w3.heap.size none 0 0 [] m (by omega) _ (Lib.hid (OwnS.nil _ _)) (by omega) (Nat.le_refl _)).mono ?_; rintro e w4 ⟨Ap, Np, cp, rfl, ho, hb, -⟩; rw [List.nil_append] at ho; have HP := Lib.hid ho; have HB4 := Lib.hid hb; clear ho hb))
  have HST3 : Hid (TX3 w3 all m (.slice Ap Np cp) (.int .i64 0) w4) := Lib.hid ⟨0, Np, Ap, cp, Nat.zero_le _, rfl, rfl, by have := HP.out.len; have := ub10 (show m < 18446744073709551616 by omega); omega, by show OwnS w4 w3.heap.size Ap Np cp (ub m ++ ([] : List (List Nat)).flatten); rw [List.flatten_nil, List.append_nil]; exact HP.out, HB4.out⟩
  clear HO1 HO2 HB1 HB2 HP HB4 HEQ
  go_loopw [4, 24] (fun up v wr => TX3 w3 all m up v wr) (fun _ v _ => m - (intOf v).toNat)
  case atStart => exact HST3.out
  case round =>
    obtain ⟨j, N, Ap, cp, hj, rfl, rfl, hN, hop, hbp⟩ := hrel
    have HOP := Lib.hid hop; have HBP := Lib.hid hbp
    clear hop hbp HST3
    by_cases hjm : j < m
    · have hji : (j : Int) < (m : Int) := by omega
      obtain ⟨s, hs⟩ : ∃ s, all[j]? = some s := ⟨_, List.getElem?_eq_getElem (by have := HML.out; omega)⟩
      have HS := Lib.hid hs
      have HSW := Lib.hid (HUW.out s (List.mem_of_getElem? hs))
      obtain ⟨ga, oa, hA, hga, hca⟩ := HOX.out.isAt.spot (by have := HML.out; omega)
      subst hA
      have hcs := (HBP.out.cell (p := ⟨ga, oa + j, none⟩) hga).trans (hca j s hs)
      have HT := Lib.hid (putT_any w3.heap.size Ap N cp _ s HSW.out.1 HSW.out.2 wr HOP (by omega) HBP.out.size)
      have HTL : Hid ((txL s).length ≤ 1000010) := Lib.hid (by unfold txL; rw [List.length_append]; have := HSW.out.2; have := ub10 (show s.length < 18446744073709551616 by omega); omega)
      clear hs hga hca
      go_wp2_with (go_at_call 67; (with_reducible refine (HT.out).mono ?_); rintro e w5 ⟨A5, n5, c5, rfl, ho, hb, -⟩; have HO5 := Lib.hid ho; have HB5 := Lib.hid hb; clear ho hb)
      go_roundw
      case rel =>
        have h5 := HO5.out
        rw [flat_snoc m all j s HS.out] at h5
        refine ⟨j + 1, n5, A5, c5, by omega, by go_num, rfl, ?_, h5, HBP.out.trans HB5.out⟩
        have e1 := HO5.out.len
        have e2 := HOP.out.len
        rw [List.length_append] at e1
        have := HTL.out
        omega
      case measure => simp [intOf]; omega
    · obtain rfl : j = m := by omega
      have HTK : Hid (all.take j = all) := Lib.hid (List.take_of_length_le (by have := HML.out; omega))
      rw [HTK.out] at HOP
      obtain ⟨wa, hwa⟩ : ∃ wa, wa = wr := ⟨_, rfl⟩
      have HWA : Hid (Below W.heap.size W wr) := Lib.hid (below_to HB3.out HBP.out)
      have HLEN : Hid ((l.map fun x => (plc all x : Int)).length = n) := Lib.hid (by rw [List.length_map]; exact hn.out.symm)
      go_wp2_with (refine wpList_make_full _ rfl (.tmp 33) (.tmp 33) 22 rfl wr.heap.size 2 iu (.int .i64 0) 1 Try.underlying22 hiu hz0 hz1 .i64 .i64 _ _ n rfl rfl rfl rfl hzb hnm (Nat.le_refl _) ?_; intro w6 own hgr; have HRI := Lib.hid (rowI_zeros own); have HB6 : Hid (Below wr.heap.size wr w6) := Lib.hid ((Below.refl _ wr).grown hgr (Nat.le_refl _) (by intro k hk; cases hk)); clear own hgr)
      rw [← hwa] at HRI HB6 HOP HBP HWA ⊢
      clear hwa
      obtain ⟨L, hL⟩ : ∃ L, L = wa.heap.size := ⟨_, rfl⟩
      rw [← hL] at HRI ⊢
      have HLE := Lib.hid hL
      clear hL
      go_loopw [37] (fun v wr => ∃ k : Nat, k ≤ n ∧ v = .int .i64 (k : Int) ∧ RowI wr L ((l.map fun x => (plc all x : Int)).take k ++ List.replicate (n - k) 0) ∧ Below L wa wr) (fun v _ => n - (intOf v).toNat)
      case atStart => exact ⟨0, Nat.zero_le _, rfl, by simpa using HRI.out, by rw [HLE.out]; exact HB6.out⟩
      case round =>
        obtain ⟨k, hk, rfl, hrow, hb⟩ := hrel
        have HROW := Lib.hid hrow; have HB : Hid (Below wa.heap.size wa wr) := Lib.hid (HLE.out ▸ hb)
        clear hrow hb HRI HB6
        have HBW : Hid (Below W.heap.size W wr) := Lib.hid (below_to HWA.out HB.out)
        by_cases hlt : k < n
        · have hki : (k : Int) < (n : Int) := by omega
          obtain ⟨x, hx⟩ : ∃ x, l[k]? = some x := ⟨l[k]'(by have := hn.out; omega), List.getElem?_eq_getElem _⟩
          have hxm : x ∈ all := (HUM.out x).2 (List.mem_of_getElem? hx)
          obtain ⟨hxw, g, off, rfl, -, hcx⟩ := (HL.out.keep HBW.out) k x hx
          have HSN := Lib.hid (plc_snoc all l k x hx)
          have hox := HOX.out.keep (HBP.out.trans (HB.out.mono HBP.out.size))
          obtain ⟨ga, oa, hA, hga, hca⟩ := hox.isAt.spot (List.length_pos_of_mem hxm)
          subst hA
          have HBN := Lib.hid (bin_any ga oa j c1 all HML.out (by omega) HUR.out x hxm wr hox.isAt)
          have f2 := HROW.out.fr k
          obtain ⟨u2, c2⟩ := HROW.out.at k (by rw [List.length_append, List.length_replicate, List.length_take]; have := HLEN.out; omega)
          have HSET := Lib.hid (fill_set ((l.map fun x => (plc all x : Int)).take k) n k (by rw [List.length_take]; have := HLEN.out; omega) hlt (plc all x : Int))
          clear hx hxm hga hca hox
          go_wp2_with (go_at_call 68; refine (HBN.out).mono ?_; rintro e w7 ⟨rfl, hb⟩; have HB7 := Lib.hid hb; have HR7 : Hid (RowI w7 L _) := Lib.hid (HROW.out.keep (Kept.of_below (S := fun _ => False) hb) (fun h => h)); have f7 := HR7.out.fr k; obtain ⟨u7, c7⟩ := HR7.out.at k (by rw [List.length_append, List.length_replicate, List.length_take]; have := HLEN.out; omega); clear hb)
          go_roundw
          case rel => exact ⟨k + 1, by omega, by go_num, by rw [HSN.out, ← HSET.out]; exact HR7.out.set k (plc all x : Int), by rw [HLE.out]; exact (below_to HB.out HB7.out).setCell (Nat.le_refl _) _⟩
          case measure => simp [intOf]; omega
        · obtain rfl : k = n := by omega
          have hki : ¬ (k : Int) < (k : Int) := by omega
          have hr := HROW.out
          rw [Nat.sub_self, List.replicate_zero, List.append_nil, List.take_of_length_le (by have := HLEN.out; omega)] at hr
          have HIW : Hid (∀ x ∈ (l.map fun x => (plc all x : Int)), Wf64 x) := Lib.hid (fun x hx => by obtain ⟨y, -, rfl⟩ := List.mem_map.1 hx; exact plc_wf all (by have := HML.out; omega) y)
          have HO := Lib.hid (hr.own (B := L) (Nat.le_refl _) HIW.out (by rw [HLEN.out]; exact hnm))
          rw [HLEN.out] at HO
          have HI := Lib.hid (ints_any (some ⟨L, 0, none⟩) k k (l.map fun x => (plc all x : Int)) (Lib.hid HLEN.out.symm) (Nat.le_refl _) (by omega) (by omega) wr (Lib.hid HO.out.isAt))
          have HIF : Hid ((intsL (l.map fun x => (plc all x : Int))).length ≤ 1000000) := Lib.hid (ints_few _ HIW.out (by rw [HLEN.out]; omega))
          have HPr := Lib.hid (HOP.out.keep HB.out)
          have hb3 : w3.heap.size ≤ wr.heap.size := Nat.le_trans HBP.out.size HB.out.size
          clear hr
          go_wp2_with (first
            | (go_at_call 12; (with_reducible refine (HI.out).mono ?_); rintro e w8 ⟨A8, n8, c8, rfl, h1, h2, h3⟩; have HO8 := Lib.hid h1; have HB8 := Lib.hid h2; have HP8 := Lib.hid (HPr.out.keep h2); have hn8 : n8 ≤ 1000000 := (by have := h1.len; have := HIF.out; omega); have hb8 : w3.heap.size ≤ w8.heap.size := (Nat.le_trans hb3 h3); clear h1 h2 h3)
            | (refine wpList_append_by rfl (.tmp 53) (.tmp 55) rfl w3.heap.size Ap N cp _ rfl HP8.out A8 n8 c8 (intsL (l.map fun x => (plc all x : Int))) rfl HO8.out.len HO8.out.byAt (by omega) hb8 ?_; intro A9 c9 w9 ho hg hr9; have HO9 := Lib.hid ho; have HB9 := Lib.hid (((HBP.out.trans (HB.out.mono HBP.out.size)).trans (HB8.out.mono hb3)).grown hg hb8 HP8.out.base); clear ho hg hr9))
          go_ret
          rw [HXT.out, ← HML.out]
          have hBW := below_to HB3.out HB9.out
          exact ⟨A9, _, c9, rfl, HO9.out.more HB3.out.size, hBW, hBW.size⟩
end Go.Proofs.Ytpobfgokikfmbaa

set_option linter.unusedSimpArgs false
set_option linter.unusedVariables false
set_option maxRecDepth 8000
namespace Go.Proofs.Ytpobfgokikfmbaa
open Go.RowKit Go.WideShapes Col
namespace Col
theorem runS_pre {σ α : Type} {step : σ → Option (α × σ)} {k : Nat} {s s1 : σ} {xs : List α} (h : runS step k s = some (xs, s1)) : ∀ n, k ≤ n → ∀ ys s2, runS step n s = some (ys, s2) → ys.take k = xs := by
  intro n hn
  induction n with
  | zero =>
    intro ys s2 h2
    obtain rfl : k = 0 := by omega
    rw [h] at h2; injection h2 with h2; injection h2 with h2 h3
    rw [← h2]; have := runS_len h; exact List.take_of_length_le (by omega)
  | succ n ih =>
    intro ys s2 h2
    by_cases hk : k = n + 1
    · subst hk
      rw [h] at h2; injection h2 with h2; injection h2 with h2 h3
      rw [← h2]; have := runS_len h; exact List.take_of_length_le (by omega)
    · rw [runS] at h2
      rcases hr : runS step n s with _ | ⟨zs, s3⟩
      · rw [hr] at h2; cases h2
      · rw [hr] at h2
        simp only [Option.bind_some] at h2
        rcases hs : step s3 with _ | ⟨z, s4⟩
        · rw [hs] at h2; cases h2
        · rw [hs] at h2
          injection h2 with h2; injection h2 with h2 h3
          have h4 := ih (by omega) zs s3 hr
          have h5 := runS_len hr
          rw [← h2, List.take_append_of_le_length (by omega)]; exact h4
/-- Two texts that don't rise: there are none. -/
theorem rU_fall {q r : List Nat} {n k : Nat} {l : List (List Nat)} {s' : List Nat} {s t : List Nat} (h : uP 4096 q = some (n, r)) (hr : runS (tP 32) (k + 1) r = some (l, s')) (hk : k + 1 ≤ n) (j : Nat) (hj : j + 1 = k) (hs : l[j]? = some s) (ht : l[k]? = some t) (hls : tls s t = false) : rU q = none := by
  rcases hr2 : runS (tP 32) n r with _ | ⟨ys, s2⟩
  · exact rU_no2 h hr2
  · rcases hri : rising ys with _ | _
    · exact rU_no3 h hr2 hri
    · have h3 := runS_pre hr n hk ys s2 hr2
      have h4 : ys[j]? = some s := by rw [← h3, List.getElem?_take] at hs; split at hs; exact hs; cases hs
      have h5 : ys[j + 1]? = some t := by rw [hj]; rw [← h3, List.getElem?_take] at ht; split at ht; exact ht; cases ht
      have := rising_get hri j s t h4 h5
      rw [hls] at this; cases this
theorem rising_snoc {l : List (List Nat)} {t : List Nat} (h : rising l = true) (h2 : ∀ (j : Nat) (s : List Nat), j + 1 = l.length → l[j]? = some s → tls s t = true) : rising (l ++ [t]) = true := by
  refine rising_of fun i s t2 hs ht => ?_
  have hi : i < l.length := by
    have := (List.getElem?_eq_some_iff.1 ht).1
    simp at this; omega
  rw [List.getElem?_append_left hi] at hs
  by_cases e : i + 1 < l.length
  · rw [List.getElem?_append_left e] at ht
    exact rising_get h i s t2 hs ht
  · have e2 : i + 1 = l.length := by omega
    rw [e2] at ht
    simp at ht
    subst ht
    exact h2 i s e2 hs
theorem tls_nil (s : List Nat) : tls s [] = false := by
  unfold tls; rw [str_nil]
  have e : ({ data := #[] } : ByteArray).toList = [] := by rw [ByteArray.toList_eq]
  rw [e]
  rcases (strB s).toList <;> rfl
theorem rTL_no {q r : List Nat} {ts : List (List Nat)} (h : rU q = some (ts, r)) (h2 : riL r = none) : rTL q = none := by
  rcases hi : rI r with _ | ⟨xs, _ | ⟨y, ys⟩⟩
  · exact rTL_none (rT_no2 h hi)
  · rw [riL_some hi] at h2; cases h2
  · rcases ho : okT ts xs with _ | _
    · exact rTL_none (rT_no3 h hi ho)
    · exact rTL_left (rT_yes h hi ho) (by simp)
end Col
/-- How the document's ReadTexts ends. -/
def RTRef (w : World) (o : Option (List (List Nat))) (e : Ending) (w' : World) : Prop := match o with
  | some l => (∃ A' n' cap', e = .returned (.tuple #[.slice A' n' cap', .bool true]) ∧ OwnX w' w.heap.size A' n' cap' l) ∧ Below w.heap.size w w'
  | none => e = .returned (.tuple #[.slice none 0 0, .bool false]) ∧ Below w.heap.size w w'
/-- The texts that there are, read so far. -/
def RA1 (w : World) (B m C : Nat) (A : Option Addr) (p q r : List Nat) (n : Nat) (u v : Value) (wr : World) : Prop :=
  ∃ (k : Nat) (A' : Option Addr) (cap' : Nat) (l : List (List Nat)) (s' : Option (List Nat)), k ≤ n ∧ v = .int .u64 (k : Int) ∧ u = .slice A' k cap' ∧ OwnX wr B A' k cap' l ∧ RRA wr m A C p s' ∧ Kept (Only m) w wr ∧
    ((∃ r', s' = some r' ∧ uP 4096 q = some (n, r) ∧ runS (tP 32) k r = some (l, r') ∧ rising l = true) ∨ (s' = none ∧ rU q = none))
structure RA2 (w : World) (B ub B3 : Nat) (A1 : Option Addr) (n1 c1 : Nat) (ts : List (List Nat)) (A2 : Option Addr) (n2 c2 : Nat) (xs : List Int) (A3 : Option Addr) (k c3 : Nat) (wr : World) : Prop where
  own1 : OwnX wr B A1 n1 c1 ts
  own2 : OwnI wr B A2 n2 c2 xs
  off1 : ∀ b, A1.map (·.block) = some b → b < ub
  off2 : ∀ b, A2.map (·.block) = some b → b < ub
  hub : w.heap.size ≤ ub
  ubB : ub < B3
  used : RowBo wr ub (usedL n1 (xs.take k))
  own3 : OwnX wr B3 A3 k c3 ((xs.take k).map (pickT ts))
  below : Below w.heap.size w wr
  size : B3 ≤ wr.heap.size
  ok : ∀ (j : Nat) (x : Int), j < k → xs[j]? = some x → 0 ≤ x ∧ x < (n1 : Int)
set_option maxHeartbeats 8000000 in
theorem refReadTexts (A : Option Addr) (C : Nat) (p : List Nat) (np : Nat) (hnp : Hid (np = p.length)) (hn4 : np ≤ 1000000) (hC : np ≤ C) (hC' : C ≤ maxLen) (w : World) (HA : Hid (ByAt w A p)) :
    Calls Try.prog 20 #[.slice A np C] w (RTRef w (rTL p)) := by
  obtain ⟨ib, hib, hb0, hb1, hb2⟩ := info_parts infoBool
  obtain ⟨m, hm⟩ : ∃ m, m = w.heap.size := ⟨_, rfl⟩
  obtain ⟨w1, hw1⟩ : ∃ w1, w1 = w.alloc (.cells #[.slice A np C, .int .i64 0] 54) := ⟨_, rfl⟩
  have HR1 : Hid (RRA w1 m A C p (some p)) := Lib.hid (by rw [hw1, hm, hnp.out]; exact rra_new (by have := hnp.out; omega) (by have := hnp.out; omega) hC' HA.out)
  have HB1 : Hid (Below w.heap.size w w1) := Lib.hid (by rw [hw1]; exact (Below.refl w.heap.size w).alloc (Nat.le_refl _) _)
  have HSZ : Hid (w1.heap.size = m + 1) := Lib.hid (by rw [hw1, hm]; simp)
  have HBLK : Hid (∀ a, A = some a → 0 < p.length → a.block < m) := Lib.hid fun a ha h0 => by
    obtain ⟨-, g, off, e, hg, -⟩ := HA.out 0 (p[0]'h0) (List.getElem?_eq_getElem h0)
    rw [ha] at e; injection e with e; rw [e, hm]; exact hg
  have HM := Lib.hid hm
  have HW : Hid (w.alloc (.cells #[.slice A np C, .int .i64 0] 54) = w1) := Lib.hid hw1.symm
  obtain ⟨n, hn⟩ : ∃ n, n = (uintS 4096 (some p)).1 := ⟨_, rfl⟩
  obtain ⟨s1, hs1⟩ : ∃ s1, s1 = (uintS 4096 (some p)).2 := ⟨_, rfl⟩
  have HU : Hid (Calls Try.prog 32 #[.pointer (some ⟨m, 0, none⟩), .int .u64 4096] w1 (RByte w1 m A C p (.int .u64 (n : Int)) s1)) := Lib.hid (by
    have := ruint_any m C A p 4096 (some p) w1 HR1
    rw [← hn, ← hs1] at this; exact this)
  have HSTEP : Hid ((∃ r, s1 = some r ∧ uP 4096 p = some (n, r)) ∨ (s1 = none ∧ n = 0 ∧ rU p = none)) := Lib.hid (by
    rcases hu : uP 4096 p with _ | ⟨n', r⟩
    · rw [uintS_none hu] at hn hs1; exact .inr ⟨hs1, hn, rU_no1 hu⟩
    · rw [uintS_some hu] at hn hs1; subst hn; exact .inl ⟨r, hs1, rfl⟩)
  have hn4096 : n ≤ 4096 := by
    rcases HSTEP.out with ⟨r, -, h⟩ | ⟨-, h, -⟩
    · exact (uP_some h).2
    · omega
  clear hn hs1 hw1 hm
  go_enter Try.func20, Try.ntmps20
  go_upto_region 2 with fail
  rw [HW.out, ← HM.out]
  go_wp2_with (go_at_call 32; (with_reducible refine (HU.out).mono ?_); rintro e w2 hy; obtain ⟨rfl, HR2, HK2⟩ := hy.at; clear hy)
  obtain ⟨B, hB⟩ : ∃ B, B = w1.heap.size := ⟨_, rfl⟩
  have HBE := Lib.hid hB
  have hmB : m < B := by rw [hB, HSZ.out]; omega
  clear hB
  have HFAIL : Hid (∀ w9 : World, rTL p = none → Kept (Only m) w1 w9 → RTRef w (rTL p) (.returned (.tuple #[.slice none 0 0, .bool false])) w9) := Lib.hid fun w9 h1 h2 => by
    rw [h1]; exact ⟨rfl, HB1.out.trans (h2.below (B := w.heap.size) (by rw [HSZ.out, HM.out]; omega) fun k hk => by have hk : k = m := hk; rw [hk, HM.out]; exact Nat.le_refl _)⟩
  obtain ⟨r, hr⟩ : ∃ r, r = s1.getD [] := ⟨_, rfl⟩
  have HST : Hid (RA1 w1 B m C A p p r n (.slice none 0 0) (.int .u64 0) w2) := Lib.hid ⟨0, none, 0, [], s1, Nat.zero_le _, rfl, rfl, ⟨World.ownsRow_nil _ _ _ 1, fun x hx => by cases hx⟩, HR2.out, HK2.out, by
    rcases HSTEP.out with ⟨r', h1, h2⟩ | ⟨h1, -, h2⟩
    · rw [h1] at hr; exact .inl ⟨r', h1, by rw [hr]; exact h2, by rw [hr]; rfl, rfl⟩
    · exact .inr ⟨h1, h2⟩⟩
  clear HSTEP hr HR2 HK2 HU
  go_loopw [6, 7] (fun u v wr => RA1 w1 B m C A p p r n u v wr) (fun _ v _ => n - (intOf v).toNat)
  case atStart => exact HST.out
  case round =>
    obtain ⟨k, A', cap', l, s', hk, rfl, rfl, ho, hr, hkp, hcase⟩ := hrel
    have HO := Lib.hid ho; have HR := Lib.hid hr; have HK := Lib.hid hkp
    clear ho hr hkp HST
    have c1 := HR.out.c1
    by_cases hgo : k < n ∧ ∃ r', s' = some r'
    · obtain ⟨hlt, r', rfl⟩ := hgo
      obtain ⟨hup, hrun, hris⟩ : uP 4096 p = some (n, r) ∧ runS (tP 32) k r = some (l, r') ∧ rising l = true := by
        rcases hcase with ⟨r2, h1, h2⟩ | ⟨h1, -⟩
        · injection h1 with h1; subst h1; exact h2
        · cases h1
      clear hcase
      have HUPN := Lib.hid hup
      clear hup
      obtain ⟨z, hz, hzl⟩ := atR_pos HR.out
      rw [hz] at c1
      have hz0 : (0 : Int) ≤ (z : Int) := by omega
      obtain ⟨t, ht⟩ : ∃ t, t = (textS 32 (some r')).1 := ⟨_, rfl⟩
      obtain ⟨s2, hs2⟩ : ∃ s2, s2 = (textS 32 (some r')).2 := ⟨_, rfl⟩
      have HT : Hid (Calls Try.prog 36 #[.pointer (some ⟨m, 0, none⟩), .int .i64 32] wr (RByte wr m A C p (.string (strB t)) s2)) := Lib.hid (by
        have := rtext_any m C A p 32 (by decide) (some r') wr HR
        rw [← ht, ← hs2] at this; exact this)
      have hlk : l.length = k := runS_len hrun
      have HLK := Lib.hid hlk
      have HRUN := Lib.hid hrun; have HRIS := Lib.hid hris
      have HNX : Hid (WfT t ∧ ((∃ r2, s2 = some r2 ∧ runS (tP 32) (k + 1) r = some (l ++ [t], r2)) ∨ (s2 = none ∧ t = [] ∧ rU p = none))) := Lib.hid (by
        rcases htp : tP 32 r' with _ | ⟨t2, r2⟩
        · rw [textS_none htp] at ht hs2
          exact ⟨by rw [ht]; intro c hc; (cases hc), .inr ⟨hs2, ht, rU_no2 HUPN.out (runS_none hrun htp n hlt)⟩⟩
        · rw [textS_some htp] at ht hs2
          refine ⟨by rw [ht]; exact fun c hc => HR.out.wf c ((tP_left htp).2.1 c hc), .inl ⟨r2, hs2, by rw [ht]; exact runS_some hrun htp⟩⟩)
      have hbs0 := HK.out.size
      clear hrun hris ht hs2 hz hzl
      by_cases hgood : k = 0 ∨ ∃ s, l[k - 1]? = some s ∧ tls s t = true
      · have HRIS2 : Hid (∀ r2, s2 = some r2 → rising (l ++ [t]) = true) := Lib.hid fun r2 _ => rising_snoc HRIS.out fun j s hj hs => by
          rcases hgood with h | ⟨s3, h1, h2⟩
          · omega
          · rw [show k - 1 = j by omega, hs] at h1; injection h1 with h1; subst h1; exact h2
        have HAX := Lib.hid (fun w9 => tx_one w9 t HNX.out.1)
        have HKB : Hid (∀ w9 : World, Kept (fun _ => False) w9 (w9.alloc (.cells #[.string (strB t)] 9))) := Lib.hid fun w9 => (Kept.refl _ _).alloc _
        have hk0c : k = 0 ∨ ∃ (j : Nat) (g off : Nat) (s : List Nat), k = j + 1 ∧ A' = some ⟨g, off, none⟩ ∧ g < wr.heap.size ∧ B ≤ g ∧ wr.cell? ⟨g, off + j, none⟩ = some (.string (strB s)) ∧ tls s t = true := by
          rcases hgood with h | ⟨s3, h1, h2⟩
          · exact .inl h
          · by_cases h0 : k = 0
            · exact .inl h0
            · obtain ⟨g, off, e, hg, hc⟩ := HO.out.isAt.spot (by omega)
              exact .inr ⟨k - 1, g, off, s3, by omega, e, hg, HO.out.base g (by rw [e]; rfl), hc (k - 1) s3 h1, h2⟩
        have HREL : Hid (∀ (A3 : Option Addr) (c3 : Nat) (w4 w5 : World), RRA w4 m A C p s2 → Kept (Only m) wr w4 → OwnX w5 B A3 (k + 1) c3 (l ++ [t]) → Kept (fun b => A'.map (·.block) = some b) (w4.alloc (.cells #[.string (strB t)] 9)) w5 → RA1 w1 B m C A p p r n (.slice A3 (k + 1) c3) (.int .u64 ((k + 1 : Nat) : Int)) w5) := Lib.hid fun A3 c3 w4 w5 h1 h2 h3 h4 => by
          have hb := HO.out.base
          have hm1 : ¬ A'.map (·.block) = some m := fun e => by have := hb m e; omega
          have ho1 : Off (fun k => A'.map (·.block) = some k) A p := fun a ha h0 e => by have := hb _ e; have := HBLK.out a ha h0; omega
          refine ⟨k + 1, A3, c3, l ++ [t], s2, by omega, rfl, rfl, h3, (h1.keep (HKB.out w4) (fun e => e) (fun a _ _ e => e)).keep h4 hm1 ho1, ((HK.out.trans h2).trans' (HKB.out w4) (fun i h => h.elim)).trans' h4 (fun i h => .inr (by have := hb i h; rw [← HBE.out]; exact this)), ?_⟩
          rcases HNX.out.2 with ⟨r2, e1, e2⟩ | ⟨e1, -, e2⟩
          · exact .inl ⟨r2, e1, HUPN.out, e2, HRIS2.out r2 e1⟩
          · exact .inr ⟨e1, e2⟩
        clear hgood hlk
        rcases hk0c with h0 | ⟨j, g, off, s, hkj, rfl, hg, hgB, hcs, hts⟩
        · subst h0
          go_wp2_with (first
            | (go_at_call 36; (with_reducible refine (HT.out).mono ?_); rintro e w4 hy; obtain ⟨rfl, HR4, HK4⟩ := hy.at; have HO4 := Lib.hid (HO.out.keptGX HK4.out hmB); have HOX := Lib.hid (HO4.out.keep ((Below.refl w4.heap.size w4).alloc (Nat.le_refl _) (.cells #[.string (strB t)] 9))); have hbs : B ≤ (w4.alloc (.cells #[.string (strB t)] 9)).heap.size := (by rw [HBE.out]; exact Nat.le_trans hbs0 (Nat.le_trans HK4.out.size (HKB.out w4).size)); clear hy)
            | (refine wpList_append_tx rfl (.tmp 44) (.tmp 46) rfl B A' 0 cap' _ rfl HOX.out ⟨w4.heap.size, 0, none⟩ 1 1 [t] rfl rfl (HAX.out w4) (by omega) hbs ?_; intro A3 c3 w5 ho hg; have HO5 := Lib.hid ho; have HK5 : Hid (Kept (fun k => A'.map (·.block) = some k) (w4.alloc (.cells #[.string (strB t)] 9)) w5) := Lib.hid (Kept.of_grown hg); clear ho hg))
          go_roundw
          case rel => exact HREL.out A3 c3 w4 w5 HR4.out HK4.out HO5.out HK5.out
          case measure => simp [intOf]; omega
        · have hsub : (k : Int) - 1 = (j : Int) := by omega
          have hjk : (j : Int) < (k : Int) := by omega
          have hk1 : (0 : Int) < (k : Int) := by omega
          have hts' : Op.bytesLess (strB s).toList (strB t).toList = true := hts
          have hne : ¬ Only m g := fun e => by have e : g = m := e; omega
          have HGG := Lib.hid hg; have HCS := Lib.hid hcs; have HNE := Lib.hid hne
          clear hkj hts hg hcs hgB hne
          go_wp2_with (first
            | (go_at_call 36; (with_reducible refine (HT.out).mono ?_); rintro e w4 hy; obtain ⟨rfl, HR4, HK4⟩ := hy.at; have HO4 := Lib.hid (HO.out.keptGX HK4.out hmB); have HOX := Lib.hid (HO4.out.keep ((Below.refl w4.heap.size w4).alloc (Nat.le_refl _) (.cells #[.string (strB t)] 9))); have hbs : B ≤ (w4.alloc (.cells #[.string (strB t)] 9)).heap.size := (by rw [HBE.out]; exact Nat.le_trans hbs0 (Nat.le_trans HK4.out.size (HKB.out w4).size)); have hcs4 : w4.cell? ⟨g, off + j, none⟩ = some (.string (strB s)) := (HK4.out.cell (p := ⟨g, off + j, none⟩) HGG.out HNE.out).trans HCS.out; clear hy)
            | (refine wpList_append_tx rfl (.tmp 44) (.tmp 46) rfl B (some ⟨g, off, none⟩) k cap' _ rfl HOX.out ⟨w4.heap.size, 0, none⟩ 1 1 [t] rfl rfl (HAX.out w4) (by omega) hbs ?_; intro A3 c3 w5 ho hg; have HO5 := Lib.hid ho; have HK5 : Hid (Kept (fun k => (some ⟨g, off, none⟩ : Option Addr).map (·.block) = some k) (w4.alloc (.cells #[.string (strB t)] 9)) w5) := Lib.hid (Kept.of_grown hg); clear ho hg))
          go_roundw
          case rel => exact HREL.out A3 c3 w4 w5 HR4.out HK4.out HO5.out HK5.out
          case measure => simp [intOf]; omega
      · have hk0 : k ≠ 0 := fun e => hgood (.inl e)
        obtain ⟨j, hkj⟩ : ∃ j, k = j + 1 := ⟨k - 1, by omega⟩
        obtain ⟨s, hs⟩ : ∃ s, l[j]? = some s := ⟨_, List.getElem?_eq_getElem (by omega)⟩
        have hts : tls s t = false := by
          rcases h : tls s t with _ | _
          · rfl
          · exact (hgood (.inr ⟨s, by rw [show k - 1 = j by omega]; exact hs, h⟩)).elim
        have HNO : Hid (rTL p = none) := Lib.hid (rTL_none (rT_no1 (by
          rcases HNX.out.2 with ⟨r2, e1, e2⟩ | ⟨e1, -, e2⟩
          · exact rU_fall HUPN.out e2 (by omega) j (by omega) (s := s) (t := t) (by rw [List.getElem?_append_left (by omega)]; exact hs) (by rw [List.getElem?_append_right (by omega), hlk]; simp) hts
          · exact e2)))
        obtain ⟨g, off, rfl, hg, hc⟩ := HO.out.isAt.spot (by omega)
        have hcs := hc j s hs
        have hgB := HO.out.base g rfl
        have hsub : (k : Int) - 1 = (j : Int) := by omega
        have hjk : (j : Int) < (k : Int) := by omega
        have hk1 : (0 : Int) < (k : Int) := by omega
        have hts' : Op.bytesLess (strB s).toList (strB t).toList = false := hts
        have hne : ¬ Only m g := fun e => by have e : g = m := e; omega
        have HGG := Lib.hid hg; have HCS := Lib.hid hcs; have HNE := Lib.hid hne
        clear hkj hts hg hcs hgB hne hc hs hk0 hgood hlk
        go_wp2_with (go_at_call 36; (with_reducible refine (HT.out).mono ?_); rintro e w4 hy; obtain ⟨rfl, HR4, HK4⟩ := hy.at; have hcs4 : w4.cell? ⟨g, off + j, none⟩ = some (.string (strB s)) := (HK4.out.cell (p := ⟨g, off + j, none⟩) HGG.out HNE.out).trans HCS.out; clear hy)
        go_ret2
        exact HFAIL.out _ HNO.out (HK.out.trans HK4.out)
    · have hnlen : (p.length : Int) = (np : Int) := by have := hnp.out; omega
      rcases s' with _ | r'
      · have c1 : wr.cell? ⟨m, 1, none⟩ = some (.int .i64 (-1)) := c1
        have HNO : Hid (rTL p = none) := Lib.hid (rTL_none (rT_no1 (by
          rcases hcase with ⟨r2, h1, -⟩ | ⟨-, h2⟩
          · cases h1
          · exact h2)))
        have HI := Lib.hid (rintsNo_any m C A p none none none 0 0 (Lib.hid rfl) (Lib.hid rfl) (by omega) (.inl rfl) wr HR)
        clear hgo hcase
        by_cases hkn : k < n
        · go_wp2_with (go_at_call 57; refine (HI.out).mono ?_; rintro e w4 ⟨A4, n4, c4, s4, rfl, h1, h2, h3⟩; have c4' := h2.c1; have hne4 := atR_ne (p := p) h1; rw [hnlen] at hne4; have HK4 := Lib.hid (HK.out.trans h3); clear h1 h2 h3)
          go_ret2
          exact HFAIL.out _ HNO.out HK4.out
        · go_wp2_with (go_at_call 57; refine (HI.out).mono ?_; rintro e w4 ⟨A4, n4, c4, s4, rfl, h1, h2, h3⟩; have c4' := h2.c1; have hne4 := atR_ne (p := p) h1; rw [hnlen] at hne4; have HK4 := Lib.hid (HK.out.trans h3); clear h1 h2 h3)
          go_ret2
          exact HFAIL.out _ HNO.out HK4.out
      · obtain rfl : k = n := by
          by_cases h : k < n
          · exact (hgo ⟨h, r', rfl⟩).elim
          · omega
        obtain ⟨hup, hrun, hris⟩ : uP 4096 p = some (k, r) ∧ runS (tP 32) k r = some (l, r') ∧ rising l = true := by
          rcases hcase with ⟨r2, h1, h2⟩ | ⟨h1, -⟩
          · injection h1 with h1; subst h1; exact h2
          · cases h1
        have HRU := Lib.hid (rU_yes hup hrun hris)
        have HI := Lib.hid (refIntsRd_any m C A p r' wr HR)
        obtain ⟨z, hz, hzl⟩ := atR_pos HR.out
        rw [hz] at c1
        have hz0 : (0 : Int) ≤ (z : Int) := by omega
        clear hgo hcase hup hrun hris hz hzl
        rcases hri : riL r' with _ | xs
        · rw [hri] at HI
          have HNO := Lib.hid (rTL_no HRU.out hri)
          clear hri
          go_wp2_with (go_at_call 57; refine (HI.out).mono ?_; rintro e w4 ⟨A4, n4, c4, s4, rfl, h1, h2, h3⟩; have c4' := h2.c1; have hne4 := atR_ne (p := p) h1; rw [hnlen] at hne4; have HK4 := Lib.hid (HK.out.trans h3); clear h1 h2 h3)
          go_ret2
          exact HFAIL.out _ HNO.out HK4.out
        · rw [hri] at HI
          have HII := Lib.hid (riL_inv hri)
          clear hri
          have hxl := rI_len HII.out
          have HB4 : Hid (∀ w9 : World, Kept (Only m) w1 w9 → Below w.heap.size w w9) := Lib.hid fun w9 h2 => HB1.out.trans (h2.below (B := w.heap.size) (by rw [HSZ.out, HM.out]; omega) fun k hk => by have hk : k = m := hk; rw [hk, HM.out]; exact Nat.le_refl _)
          have hzb1 : ib.bytes * k ≤ 281474976710656 := by rw [hb2]; omega
          have hnm1 : k ≤ maxLen := by unfold maxLen; omega
          have HN1 : Hid (k = l.length) := Lib.hid HO.out.len
          have hnn : ((np : Int) != (np : Int)) = false := by simp
          go_upto_region 14 with (go_at_call 57; refine (HI.out).mono ?_; rintro e w4 ⟨⟨A2, n2, c2, rfl, h1⟩, h2, h3⟩; have HO2 := Lib.hid h1; have c4' : w4.cell? ⟨m, 1, none⟩ = some (.int .i64 (np : Int)) := (by have := h2.c1; rw [this]; have e : atR p (some []) = (np : Int) := (by show (p.length : Int) - (([] : List Nat).length : Int) = _; rw [List.length_nil]; omega); rw [e]); have HK4 := Lib.hid (HK.out.trans h3); have HO4 := Lib.hid (HO.out.keptGX h3 hmB); clear h1 h2 h3)
          obtain ⟨ub, hub⟩ : ∃ ub, ub = w4.heap.size := ⟨_, rfl⟩
          go_upto_region 15 with (refine wpList_make_full _ rfl (.tmp 58) (.tmp 58) 66 rfl w4.heap.size 4 ib (.bool false) 1 Try.underlying66 hib hb0 hb1 .i64 .i64 _ _ k rfl rfl rfl rfl hzb1 hnm1 (Nat.le_refl _) ?_; intro w5 own hgr; have HRB := Lib.hid (rowBo_zeros own); have HB5 : Hid (Below w4.heap.size w4 w5) := Lib.hid ((Below.refl _ w4).grown hgr (Nat.le_refl _) (by intro k hk; cases hk)); clear own hgr)
          rw [← hub]
          have HN2 : Hid (n2 = xs.length) := Lib.hid HO2.out.len
          have hn2 : n2 ≤ 4096 := by have := HN2.out; omega
          obtain ⟨B3, hB3⟩ : ∃ B3, B3 = w5.heap.size := ⟨_, rfl⟩
          have HST2 : Hid (RA2 w B ub B3 A' k cap' l A2 n2 c2 xs none 0 0 w5) := Lib.hid (by
            have h4 : ub < w5.heap.size := by rw [hub]; exact (Array.getElem?_eq_some_iff.1 HRB.out).1
            have h5 : Below w.heap.size w w4 := HB4.out _ HK4.out
            refine ⟨HO4.out.keep HB5.out, (HO2.out.more (by rw [HBE.out]; exact HK.out.size)).keep HB5.out, fun b hb => ?_, fun b hb => ?_, by rw [hub]; exact h5.size, by omega, ?_, ⟨World.ownsRow_nil _ _ _ 1, fun x hx => by cases hx⟩, h5.trans (HB5.out.mono h5.size), by omega, fun j x h => by omega⟩
            · have := HO4.out.ltX b hb; omega
            · have := HO2.out.ltI b hb; omega
            · rw [List.take_zero, usedL_nil, hub]; exact HRB.out)
          have HFAIL2 : Hid (∀ w9 : World, okT l xs = false → Below w.heap.size w w9 → RTRef w (rTL p) (.returned (.tuple #[.slice none 0 0, .bool false])) w9) := Lib.hid fun w9 h1 h2 => by
            rw [rTL_none (rT_no3 HRU.out HII.out h1)]; exact ⟨rfl, h2⟩
          clear HI HO HR HK HO2 HK4 HO4 HRB HB5 HB4 HFAIL hub hB3 c1 hz0 c4' hnn hzb1 hnm1
          go_wp2
          go_loopw [11, 12] (fun u v wr => ∃ (j : Nat) (A3 : Option Addr) (c3 : Nat), j ≤ n2 ∧ v = .int .i64 (j : Int) ∧ u = .slice A3 j c3 ∧ RA2 w B ub B3 A' k cap' l A2 n2 c2 xs A3 j c3 wr) (fun _ v _ => n2 - (intOf v).toNat)
          case atStart => exact ⟨0, none, 0, Nat.zero_le _, rfl, rfl, HST2.out⟩
          case round =>
            obtain ⟨j, A3, c3, hj, rfl, rfl, hra⟩ := hrel
            have HX := Lib.hid hra
            clear hra HST2
            by_cases hlt : j < n2
            · obtain ⟨x, hx⟩ : ∃ x, xs[j]? = some x := ⟨_, List.getElem?_eq_getElem (by have := HN2.out; omega)⟩
              obtain ⟨g2, o2, rfl, hg2, hcx⟩ := HX.out.own2.isAt.spot (by have := HN2.out; omega)
              have hc2 := hcx j x hx
              have HXK := Lib.hid hx
              have hoff2 := HX.out.off2 g2 rfl
              clear hx hcx
              by_cases hok : 0 ≤ x ∧ x < (k : Int)
              · obtain ⟨i, hi⟩ : ∃ i : Nat, x = (i : Int) := ⟨x.toNat, by omega⟩
                subst hi
                obtain ⟨hx0, hxn⟩ := hok
                have hin : i < k := by omega
                obtain ⟨t, ht⟩ : ∃ t, l[i]? = some t := ⟨_, List.getElem?_eq_getElem (by have := HN1.out; omega)⟩
                obtain ⟨g1, o1, rfl, hg1, hct⟩ := HX.out.own1.isAt.spot (by have := HN1.out; omega)
                have hc1 := hct i t ht
                have hoff1 := HX.out.off1 g1 rfl
                have hne1 : ¬ ub = g1 := by omega
                have hne1' : ¬ g1 = ub := by omega
                have hne2 : ¬ ub = g2 := by omega
                have hne2' : ¬ g2 = ub := by omega
                have HPT := Lib.hid (pickT_at ht)
                have fu := HX.out.used.fr i
                obtain ⟨u1, cu⟩ := HX.out.used.at i (by rw [usedL_len]; exact hin)
                have HTK : Hid (xs.take (j + 1) = xs.take j ++ [(i : Int)]) := Lib.hid (by rw [List.take_add_one, HXK.out]; rfl)
                have hk1 : Kept (fun b => b = ub) wr (wr.setCell ⟨ub, i, none⟩ (.bool true)) := (Kept.refl _ _).setCell _ _ (.inl rfl)
                obtain ⟨w6, hw6⟩ : ∃ w6, w6 = wr.setCell ⟨ub, i, none⟩ (.bool true) := ⟨_, rfl⟩
                rw [← hw6] at hk1
                have HK1 := Lib.hid hk1
                have HWT : Hid (WfT t) := Lib.hid (HX.out.own1.2 t (List.mem_of_getElem? ht))
                have HU6 : Hid (RowBo w6 ub (usedL k (xs.take (j + 1)))) := Lib.hid (by rw [HTK.out, usedL_snoc, hw6]; exact HX.out.used.set i true)
                have HO16 := Lib.hid (HX.out.own1.keptS hk1 (fun b hb => by have := HX.out.off1 b hb; omega))
                have HO26 := Lib.hid (HX.out.own2.keptSI hk1 (fun b hb => by have := HX.out.off2 b hb; omega))
                have HO36 := Lib.hid (HX.out.own3.keptS hk1 (fun b hb => by have := HX.out.own3.base b hb; have := HX.out.ubB; omega))
                have HBL6 : Hid (Below w.heap.size w w6) := Lib.hid (HX.out.below.trans (hk1.below (B := w.heap.size) HX.out.below.size fun b hb => by have hb : b = ub := hb; rw [hb]; exact HX.out.hub))
                have HSZ6 : Hid (B3 ≤ w6.heap.size) := Lib.hid (Nat.le_trans HX.out.size hk1.size)
                have HW6 : Hid (wr.setCell ⟨ub, i, none⟩ (.bool true) = w6) := Lib.hid hw6.symm
                have hc26 : w6.cell? ⟨g2, o2 + j, none⟩ = some (.int .i64 (i : Int)) := (hk1.cell (p := ⟨g2, o2 + j, none⟩) hg2 (fun e => by have e : g2 = ub := e; omega)).trans hc2
                have hc16 : w6.cell? ⟨g1, o1 + i, none⟩ = some (.string (strB t)) := (hk1.cell (p := ⟨g1, o1 + i, none⟩) hg1 (fun e => by have e : g1 = ub := e; omega)).trans hc1
                have HAX := Lib.hid (tx_one w6 t HWT.out)
                have HBX : Hid (Below w6.heap.size w6 (w6.alloc (.cells #[.string (strB t)] 9))) := Lib.hid ((Below.refl _ _).alloc (Nat.le_refl _) _)
                have HOX := Lib.hid (HO36.out.keep HBX.out)
                have hbs : B3 ≤ (w6.alloc (.cells #[.string (strB t)] 9)).heap.size := Nat.le_trans HSZ6.out HBX.out.size
                clear ht hct hw6 hk1 hg1 hg2
                go_upto_region 22 with fail
                rw [HW6.out]
                clear cu fu hne1 hne1' hne2 hne2' hc1 hc2
                go_wp2_with (refine wpList_append_tx rfl (.tmp 86) (.tmp 94) rfl B3 A3 j c3 _ rfl HOX.out ⟨w6.heap.size, 0, none⟩ 1 1 [t] rfl rfl HAX.out (by omega) hbs ?_; intro A5 c5 w7 ho hg; have HO7 := Lib.hid ho; have HK7 : Hid (Kept (fun b => A3.map (·.block) = some b) (w6.alloc (.cells #[.string (strB t)] 9)) w7) := Lib.hid (Kept.of_grown hg); clear ho hg)
                go_roundw
                case rel =>
                  have hb3 := HO36.out.base
                  have X := HX.out
                  have hubB := X.ubB
                  refine ⟨j + 1, A5, c5, by omega, by go_num, rfl, (HO16.out.keep HBX.out).keptS HK7.out (fun b hb h => ?_), (HO26.out.keep HBX.out).keptSI HK7.out (fun b hb h => ?_), X.off1, X.off2, X.hub, X.ubB, ?_, ?_, ?_, Nat.le_trans hbs HK7.out.size, ?_⟩
                  · have h1 := X.off1 b hb; have h2 := hb3 b h; omega
                  · have h1 := X.off2 b hb; have h2 := hb3 b h; omega
                  · exact (HU6.out.keep (Kept.of_below (S := fun _ => False) HBX.out) fun e => e).keep HK7.out fun h => by have h2 := hb3 ub h; omega
                  · rw [HTK.out, List.map_append, List.map_cons, List.map_nil, HPT.out]; exact HO7.out
                  · exact (HBL6.out.trans (HBX.out.mono HBL6.out.size)).trans (HK7.out.below (B := w.heap.size) (Nat.le_trans HBL6.out.size HBX.out.size) fun b h => by have h2 := hb3 b h; have := X.hub; omega)
                  · intro j2 y hj2 hy
                    by_cases e : j2 = j
                    · subst e; rw [HXK.out] at hy; injection hy with hy; subst hy; exact ⟨hx0, hxn⟩
                    · exact X.ok j2 y (by omega) hy
                case measure => simp [intOf]; omega
              · have HNO : Hid (okT l xs = false) := Lib.hid (okT_bad HXK.out (by rw [← HN1.out]; exact hok))
                by_cases hx0 : x < 0
                · clear hok
                  go_wp2
                  go_ret2
                  exact HFAIL2.out _ HNO.out HX.out.below
                · have hxn : (k : Int) ≤ x := by omega
                  clear hok
                  go_wp2
                  go_ret2
                  exact HFAIL2.out _ HNO.out HX.out.below
            · obtain rfl : j = n2 := by omega
              have hall : xs.take j = xs := List.take_of_length_le (by have := HN2.out; omega)
              have HRU2 : Hid (RowBo wr ub (usedL k xs)) := Lib.hid (by have := HX.out.used; rwa [hall] at this)
              have HO3 : Hid (OwnX wr B3 A3 j c3 (xs.map (pickT l))) := Lib.hid (by have := HX.out.own3; rwa [hall] at this)
              have HOK : Hid (okT l xs = !(usedL k xs).contains false) := Lib.hid (by
                rw [HN1.out]
                exact okT_end fun j2 x hj2 => by
                  have h9 := HX.out.ok j2 x (by have := (List.getElem?_eq_some_iff.1 hj2).1; have := HN2.out; omega) hj2
                  rw [HN1.out] at h9; exact h9)
              obtain ⟨wo, hwo⟩ : ∃ wo, wo = wr := ⟨_, rfl⟩
              subst hwo
              clear hall
              go_wp2
              go_loop [13] (fun v => ∃ i : Nat, i ≤ k ∧ v = .int .i64 (i : Int) ∧ ∀ b, b < i → (usedL k xs)[b]? = some true) (fun v => k - (intOf v).toNat)
              case atStart => exact ⟨0, Nat.zero_le _, rfl, fun b h => by omega⟩
              case round =>
                obtain ⟨i, hi, rfl, hus⟩ := hrel
                have HUS := Lib.hid hus
                clear hus
                by_cases hik : i < k
                · obtain ⟨b, hb⟩ : ∃ b, (usedL k xs)[i]? = some b := ⟨_, List.getElem?_eq_getElem (by rw [usedL_len]; exact hik)⟩
                  have HBI := Lib.hid hb
                  have hcell := HRU2.out.cell i b hb
                  clear hb
                  cases b
                  · have HNO : Hid (okT l xs = false) := Lib.hid (by
                      rw [HOK.out]
                      have : (usedL k xs).contains false = true := by simpa using List.mem_of_getElem? HBI.out
                      rw [this]; rfl)
                    go_wp2
                    go_ret2
                    exact HFAIL2.out _ HNO.out HX.out.below
                  · go_wp2
                    go_round
                    case rel => exact ⟨i + 1, by omega, by go_num, fun b hb => by
                      by_cases e : b = i
                      · subst e; exact HBI.out
                      · exact HUS.out b (by omega)⟩
                    case measure => simp [intOf]; omega
                · obtain rfl : i = k := by omega
                  have HYES : Hid (okT l xs = true) := Lib.hid (by
                    rw [HOK.out]
                    have : (usedL i xs).contains false = false := by
                      rw [List.contains_eq_any_beq, List.any_eq_false]
                      intro x hx
                      obtain ⟨b, hb⟩ := List.getElem?_of_mem hx
                      have h9 := HUS.out b (by have := (List.getElem?_eq_some_iff.1 hb).1; rwa [usedL_len] at this)
                      rw [hb] at h9; injection h9 with h9; subst h9; simp
                    rw [this]; rfl)
                  go_wp2
                  go_ret2
                  rw [rTL_some (rT_yes HRU.out HII.out HYES.out)]
                  exact ⟨⟨A3, j, c3, rfl, HO3.out.more (by have := HX.out.hub; have := HX.out.ubB; omega)⟩, HX.out.below⟩
end Go.Proofs.Ytpobfgokikfmbaa
