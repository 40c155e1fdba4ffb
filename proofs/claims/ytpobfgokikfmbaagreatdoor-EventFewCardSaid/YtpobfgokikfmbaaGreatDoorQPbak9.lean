/-
  Layer column: texts as bytes, and back: plain facts.
-/
import Derived.Test.YtpobfgokikfmbaaGreatDoorQPbak8
import Derived.Shelf.SlicesE.Clone
import Derived.Shelf.Slices.In.SortAlone
import Derived.Shelf.Slices.In.CompactS
import Derived.Shelf.Slices.In.SortNone
import Derived.Sort.OwnSorted
import Derived.Sort.EveryDepth
import Derived.Lib.OwnBridge
import Derived.Lib.RowBridge
import Derived.Shelf.Spec.SearchS
import Derived.Lib.AppendStr
import Derived.Test.YtpobfgokikfmbaaGreatDoorQPbak7
import Derived.Test.YtpobfgokikfmbaaGreatDoorQPbak2
import Derived.Test.YtpobfgokikfmbaaGreatDoorQPbak3
import Derived.Test.YtpobfgokikfmbaaGreatDoorRows
import Derived.Test.YtpobfgokikfmbaaGreatDoorQPbak0
import Derived.WalkKit
import Derived.WalkSpells
import Derived.WalkLawsBesides
import Derived.Laws.BitsAllLaws
import Derived.Lib.Hide
import Derived.Lib.SlBytesConst
import Derived.Deep.QuietTactic
import Derived.BigQuiet
import Derived.Deep.AppendLies
import Derived.Laws.CopyOwn
import Derived.Maps.AppendAt
import Derived.Deep.RegionHeld3
import Derived.Deep.Draws
import Derived.Lib.AppendZerosOnto
import Derived.Deep.RegionLaw
import Derived.Lib.SliceRun
set_option linter.unusedSimpArgs false
set_option linter.unusedVariables false
set_option maxRecDepth 8000
namespace Go.Proofs.YtpobfgokikfmbaaGreatDoor
open Go.RowKit Go.WideShapes Col

theorem tP_back {most : Nat} (s : List Nat) (h : s.length ≤ most) (hl : s.length < 18446744073709551616) (r : List Nat) : tP most (txL s ++ r) = some (s, r) := by
  unfold tP txL
  rw [List.append_assoc, uP_back h hl]
  simp
theorem runS_texts (ts : List (List Nat)) (h : ∀ s ∈ ts, s.length ≤ 32) (r : List Nat) : ∀ k, k ≤ ts.length → runS (tP 32) k ((ts.map txL).flatten ++ r) = some (ts.take k, ((ts.drop k).map txL).flatten ++ r) := by
  intro k
  induction k with
  | zero => intro _; rfl
  | succ k ih =>
    intro hk
    have hlt : k < ts.length := by omega
    have h1 := ih (by omega)
    rw [List.drop_eq_getElem_cons hlt, List.map_cons, List.flatten_cons, List.append_assoc] at h1
    have hs : (ts[k]).length ≤ 32 := h _ (List.getElem_mem hlt)
    rw [runS_some h1 (tP_back _ hs (by omega) _), List.take_add_one, List.getElem?_eq_getElem hlt]
    rfl
theorem rise_rising {l : List (List Nat)} (h : Rise l) : rising l = true := rising_of fun i s t h1 h2 => by
  obtain ⟨a1, a2⟩ := List.getElem?_eq_some_iff.1 h1
  obtain ⟨b1, b2⟩ := List.getElem?_eq_some_iff.1 h2
  have := List.pairwise_iff_getElem.1 h i (i + 1) a1 b1 (by omega)
  rw [a2, b2] at this; exact this
theorem plc_at {all : List (List Nat)} {x : List Nat} (h : x ∈ all) : all[plc all x]? = some x := by
  induction all with
  | nil => cases h
  | cons a r ih =>
    rw [plc]
    by_cases e : a = x
    · rw [if_pos e, e]; rfl
    · rw [if_neg e, List.getElem?_cons_succ]
      exact ih ((List.mem_cons.1 h).resolve_left fun e2 => e e2.symm)
theorem texts_back (l : List (List Nat)) (hw : ∀ x ∈ l, WfT x) (h32 : ∀ x ∈ l, x.length ≤ 32) (hn : l.length ≤ 4096) : rT (textsL l) = some (l, []) := by
  obtain ⟨hr, hm⟩ := uqL_facts l hw
  have hul := uqL_len l
  have h1 : rU (textsL l) = some (uqL l, intsL (l.map fun x => (plc (uqL l) x : Int))) := by
    unfold textsL
    rw [List.append_assoc]
    refine rU_yes (uP_back (by omega) (by omega) _) (n := (uqL l).length) ?_ (rise_rising hr)
    rw [runS_texts (uqL l) (fun s hs => h32 s ((hm s).1 hs)) _ (uqL l).length (Nat.le_refl _), List.take_length, List.drop_length]
    rfl
  have h2 : rI (intsL (l.map fun x => (plc (uqL l) x : Int))) = some (l.map fun x => (plc (uqL l) x : Int), []) := ints_back _ (fun y hy => by
    obtain ⟨x, -, rfl⟩ := List.mem_map.1 hy
    have := plc_le (uqL l) x; unfold Wf64; omega) (by rw [List.length_map]; exact hn)
  have h3 : okT (uqL l) (l.map fun x => (plc (uqL l) x : Int)) = true := by
    have hlt : ∀ x ∈ l, plc (uqL l) x < (uqL l).length := fun x hx => (List.getElem?_eq_some_iff.1 (plc_at ((hm x).2 hx))).1
    rw [okT_end fun k y hy => by
      rw [List.getElem?_map] at hy
      rcases hx : l[k]? with _ | x
      · rw [hx] at hy; cases hy
      · rw [hx] at hy; injection hy with hy; subst hy
        have := hlt x (List.mem_of_getElem? hx); show (0 : Int) ≤ (plc (uqL l) x : Int) ∧ (plc (uqL l) x : Int) < _; omega]
    rw [Bool.not_eq_true', ← Bool.not_eq_true, List.contains_iff_mem]
    intro hf
    unfold usedL at hf
    obtain ⟨i, hi, hf⟩ := List.mem_map.1 hf
    rw [List.mem_range] at hi
    obtain ⟨x, hx⟩ : ∃ x, (uqL l)[i]? = some x := ⟨_, List.getElem?_eq_getElem hi⟩
    have hxl : x ∈ l := (hm x).1 (List.mem_of_getElem? hx)
    have hpi : plc (uqL l) x = i := plc_eq hx (fun hmem => by
      obtain ⟨j, hj⟩ := List.getElem?_of_mem hmem
      rw [List.getElem?_take] at hj
      split at hj
      · rename_i hji
        obtain ⟨a1, a2⟩ := List.getElem?_eq_some_iff.1 hj
        obtain ⟨b1, b2⟩ := List.getElem?_eq_some_iff.1 hx
        have := List.pairwise_iff_getElem.1 hr j i a1 b1 hji
        rw [a2, b2, tls_irr] at this; cases this
      · cases hj)
    have : (l.map fun x => (plc (uqL l) x : Int)).contains (i : Int) = true := List.contains_iff_mem.2 (List.mem_map.2 ⟨x, hxl, by rw [hpi]⟩)
    rw [this] at hf; cases hf
  rw [rT_yes h1 h2 h3, List.map_map]
  congr 2
  refine (List.map_congr_left fun x hx => ?_).trans (List.map_id l)
  exact pickT_at (plc_at ((hm x).2 hx))
end Go.Proofs.YtpobfgokikfmbaaGreatDoor

set_option linter.unusedSimpArgs false
set_option linter.unusedVariables false
set_option maxRecDepth 8000
namespace Go.Proofs.YtpobfgokikfmbaaGreatDoor
open Go.RowKit Go.Sort Go.WideShapes Col

def cloT_ren : Go.Shelf.Ren := ⟨fun | 41 => 33 | n => n, fun | 22 => 41 | 23 => 9 | 4 => 4 | n => n, fun n => n⟩
theorem cloT : Go.Proofs.SlLaysE0.n41 Tryz.prog cloT_ren := {
  mixed := by kernel_rfl
  f41 := ⟨Tryz.f33.name, by decide, Tryz.func33.trans (congrArg some (by kernel_rfl))⟩
  t4 := Tryz.underlying4
  a4 := Tryz.isAgg4
  z4 := Tryz.sizeOf4
  v4 := Tryz.zeroValue4
  t22 := Tryz.underlying41
  a22 := Tryz.isAgg41
  z22 := Tryz.sizeOf41
  v22 := Tryz.zeroValue41 }
theorem clone_txs (g off n c : Nat) (l : List (List Nat)) (hn : Hid (n = l.length)) (hb : n ≤ 5000) (w : World) (H : Hid (TxAt w (some ⟨g, off, none⟩) l)) (h0 : 0 < n) :
    Calls Tryz.prog 33 #[.slice (some ⟨g, off, none⟩) n c] w fun e w' => ∃ rb cr, e = .returned (.slice (some ⟨rb, 0, none⟩) n cr) ∧ w.heap.size ≤ rb ∧ OwnX w' w.heap.size (some ⟨rb, 0, none⟩) n cr l ∧ Below w.heap.size w w' := by
  obtain ⟨i0, hi, hz0, hz1, hz2⟩ := info_parts infoStr
  have h := AnyE.slices_Clone cloT i0 _ 1 16 hi hz0 hz1 hz2 rfl (by decide) Tryz.sizeOf9 g off n c (tvs l) w (by rw [tvs_length, ← hn.out]; omega) (by unfold maxLen; omega) (by omega) (fun j u hu => by
    have := tx_at H.out j u hu
    rwa [Addr.add_lit] at this) (tvs_one l)
  change Calls Tryz.prog 33 _ _ _ at h
  refine h.mono fun e w' ⟨v', he, hown, hv, hbl⟩ => ?_
  rcases hown.2 with ⟨e0, _⟩ | ⟨rb, cap, cur, e0, hb0, hrest⟩
  · exact absurd e0 hv
  · subst e0
    exact ⟨rb, cap, he, hb0, ⟨hown, H.out.wf⟩, hbl⟩
end Go.Proofs.YtpobfgokikfmbaaGreatDoor

set_option linter.unusedSimpArgs false
set_option linter.unusedVariables false
set_option maxRecDepth 8000
namespace Go.Proofs.YtpobfgokikfmbaaGreatDoor
open Go.RowKit Go.Sort Go.WideShapes Col

def sorT_ren : Go.Shelf.Ren := ⟨fun | 125 => 69 | 128 => 103 | 129 => 91 | 190 => 34 | 258 => 68 | 302 => 95 | 303 => 96 | 304 => 97 | 305 => 98 | 306 => 99 | 307 => 100 | 308 => 70 | 309 => 101 | 310 => 102 | 329 => 124 | 330 => 125 | 333 => 123 | 334 => 126 | 335 => 127 | 336 => 104 | 344 => 136 | n => n, fun | 0 => 0 | 3 => 3 | 4 => 4 | 5 => 5 | 9 => 9 | 31 => 41 | 46 => 88 | 51 => 68 | 53 => 35 | 131 => 63 | 182 => 121 | 183 => 122 | 218 => 137 | 222 => 141 | 228 => 147 | 229 => 148 | n => n, fun n => n⟩
theorem sorT : Go.Proofs.Lays.n190 Tryz.prog sorT_ren := {
  mixed := by kernel_rfl
  f125 := Tryz.func69.trans (congrArg some (by kernel_rfl))
  f128 := Tryz.func103.trans (congrArg some (by kernel_rfl))
  f129 := Tryz.func91.trans (congrArg some (by kernel_rfl))
  f190 := Tryz.func34.trans (congrArg some (by kernel_rfl))
  f258 := Tryz.func68.trans (congrArg some (by kernel_rfl))
  f302 := Tryz.func95.trans (congrArg some (by kernel_rfl))
  f303 := Tryz.func96.trans (congrArg some (by kernel_rfl))
  f304 := Tryz.func97.trans (congrArg some (by kernel_rfl))
  f305 := Tryz.func98.trans (congrArg some (by kernel_rfl))
  f306 := Tryz.func99.trans (congrArg some (by kernel_rfl))
  f307 := Tryz.func100.trans (congrArg some (by kernel_rfl))
  f308 := Tryz.func70.trans (congrArg some (by kernel_rfl))
  f309 := Tryz.func101.trans (congrArg some (by kernel_rfl))
  f310 := Tryz.func102.trans (congrArg some (by kernel_rfl))
  f329 := Tryz.func124.trans (congrArg some (by kernel_rfl))
  f330 := Tryz.func125.trans (congrArg some (by kernel_rfl))
  f333 := Tryz.func123.trans (congrArg some (by kernel_rfl))
  f334 := Tryz.func126.trans (congrArg some (by kernel_rfl))
  f335 := Tryz.func127.trans (congrArg some (by kernel_rfl))
  f336 := Tryz.func104.trans (congrArg some (by kernel_rfl))
  f344 := Tryz.func136.trans (congrArg some (by kernel_rfl))
  t0 := Tryz.underlying0
  a0 := Tryz.isAgg0
  z0 := Tryz.sizeOf0
  v0 := Tryz.zeroValue0
  t3 := Tryz.underlying3
  a3 := Tryz.isAgg3
  z3 := Tryz.sizeOf3
  v3 := Tryz.zeroValue3
  t4 := Tryz.underlying4
  a4 := Tryz.isAgg4
  z4 := Tryz.sizeOf4
  v4 := Tryz.zeroValue4
  t5 := Tryz.underlying5
  a5 := Tryz.isAgg5
  z5 := Tryz.sizeOf5
  v5 := Tryz.zeroValue5
  t9 := Tryz.underlying9
  a9 := Tryz.isAgg9
  z9 := Tryz.sizeOf9
  v9 := Tryz.zeroValue9
  t31 := Tryz.underlying41
  a31 := Tryz.isAgg41
  z31 := Tryz.sizeOf41
  v31 := Tryz.zeroValue41
  t46 := Tryz.underlying88
  a46 := Tryz.isAgg88
  z46 := Tryz.sizeOf88
  v46 := Tryz.zeroValue88
  t51 := Tryz.underlying68
  a51 := Tryz.isAgg68
  z51 := Tryz.sizeOf68
  v51 := Tryz.zeroValue68
  t53 := Tryz.underlying35
  a53 := Tryz.isAgg35
  z53 := Tryz.sizeOf35
  v53 := Tryz.zeroValue35
  t131 := Tryz.underlying63
  a131 := Tryz.isAgg63
  z131 := Tryz.sizeOf63
  v131 := Tryz.zeroValue63
  t182 := Tryz.underlying121
  a182 := Tryz.isAgg121
  z182 := Tryz.sizeOf121
  v182 := Tryz.zeroValue121
  t183 := Tryz.underlying122
  a183 := Tryz.isAgg122
  z183 := Tryz.sizeOf122
  v183 := Tryz.zeroValue122
  t218 := Tryz.underlying137
  a218 := Tryz.isAgg137
  z218 := Tryz.sizeOf137
  v218 := Tryz.zeroValue137
  t222 := Tryz.underlying141
  a222 := Tryz.isAgg141
  z222 := Tryz.sizeOf141
  v222 := Tryz.zeroValue141
  t228 := Tryz.underlying147
  a228 := Tryz.isAgg147
  z228 := Tryz.sizeOf147
  v228 := Tryz.zeroValue147
  t229 := Tryz.underlying148
  a229 := Tryz.isAgg148
  z229 := Tryz.sizeOf148
  v229 := Tryz.zeroValue148 }
end Go.Proofs.YtpobfgokikfmbaaGreatDoor

set_option linter.unusedSimpArgs false
set_option linter.unusedVariables false
set_option maxRecDepth 8000
namespace Go.Proofs.YtpobfgokikfmbaaGreatDoor
open Go.RowKit Go.Sort Go.WideShapes Col

def comT_ren : Go.Shelf.Ren := ⟨fun | 194 => 35 | n => n, fun | 0 => 0 | 3 => 3 | 4 => 4 | 9 => 9 | 31 => 41 | n => n, fun n => n⟩
theorem comT : Go.Proofs.Lays.n194 Tryz.prog comT_ren := {
  mixed := by kernel_rfl
  f194 := Tryz.func35.trans (congrArg some (by kernel_rfl))
  t0 := Tryz.underlying0
  a0 := Tryz.isAgg0
  z0 := Tryz.sizeOf0
  v0 := Tryz.zeroValue0
  t3 := Tryz.underlying3
  a3 := Tryz.isAgg3
  z3 := Tryz.sizeOf3
  v3 := Tryz.zeroValue3
  t4 := Tryz.underlying4
  a4 := Tryz.isAgg4
  z4 := Tryz.sizeOf4
  v4 := Tryz.zeroValue4
  t9 := Tryz.underlying9
  a9 := Tryz.isAgg9
  z9 := Tryz.sizeOf9
  v9 := Tryz.zeroValue9
  t31 := Tryz.underlying41
  a31 := Tryz.isAgg41
  z31 := Tryz.sizeOf41
  v31 := Tryz.zeroValue41 }
end Go.Proofs.YtpobfgokikfmbaaGreatDoor

set_option linter.unusedSimpArgs false
set_option linter.unusedVariables false
set_option maxRecDepth 8000
namespace Go.Proofs.YtpobfgokikfmbaaGreatDoor
open Go.RowKit Go.Sort Go.WideShapes Col

theorem com_facts (zs : List (List UInt8)) (hs : zs.Pairwise (· ≤ ·)) : ∀ m, m ≤ zs.length → (Go.Lib.compactUpTo zs.toArray m).Pairwise (· < ·) ∧ ∀ y, y ∈ Go.Lib.compactUpTo zs.toArray m ↔ y ∈ zs.take m := by
  intro m
  induction m with
  | zero => intro _; exact ⟨List.Pairwise.nil, fun y => by rw [List.take_zero]; exact Iff.rfl⟩
  | succ m ih =>
    intro hm
    obtain ⟨h1, h2⟩ := ih (by omega)
    have hlt : m < zs.length := by omega
    have ed : ∀ j, (hj : j < zs.length) → zs.toArray[j]! = zs[j] := fun j hj => by simp [hj]
    have et : zs.take (m + 1) = zs.take m ++ [zs[m]] := by rw [List.take_add_one, List.getElem?_eq_getElem hlt]; rfl
    rw [Go.Lib.compactUpTo_succ, et]
    have hle : ∀ y ∈ zs.take m, y ≤ zs[m] := fun y hy => by
      obtain ⟨j, hj⟩ := List.getElem?_of_mem hy
      rw [List.getElem?_take] at hj
      split at hj
      · rename_i hjm
        obtain ⟨a1, a2⟩ := List.getElem?_eq_some_iff.1 hj
        have := List.pairwise_iff_getElem.1 hs j m a1 hlt hjm
        rw [a2] at this; exact this
      · cases hj
    by_cases hk : Go.Lib.keeps zs.toArray m = true
    · rw [if_pos hk, ed m hlt]
      refine ⟨List.pairwise_append.2 ⟨h1, List.pairwise_singleton _ _, fun y hy z hz => ?_⟩, fun y => by rw [List.mem_append, List.mem_append, h2]⟩
      rw [List.mem_singleton] at hz; subst hz
      have hyt := (h2 y).1 hy
      have hya := hle y hyt
      have hne : y ≠ zs[m] := fun e => by
        unfold Go.Lib.keeps at hk
        rcases of_decide_eq_true hk with h0 | h0
        · subst h0; rw [List.take_zero] at hyt; cases hyt
        · have hm0 : 0 < m := by
            rcases Nat.eq_zero_or_pos m with e0 | e0
            · subst e0; rw [List.take_zero] at hyt; cases hyt
            · exact e0
          rw [ed m hlt, ed (m - 1) (by omega)] at h0
          have hp : zs[m - 1] ≤ zs[m] := List.pairwise_iff_getElem.1 hs (m - 1) m (by omega) hlt (by omega)
          obtain ⟨j, hj⟩ := List.getElem?_of_mem hyt
          rw [List.getElem?_take] at hj
          split at hj
          · rename_i hjm
            obtain ⟨a1, a2⟩ := List.getElem?_eq_some_iff.1 hj
            have hq : zs[m] ≤ zs[m - 1] := by
              rw [← e, ← a2]
              by_cases ej : j = m - 1
              · subst ej; exact List.le_refl _
              · exact List.pairwise_iff_getElem.1 hs j (m - 1) a1 (by omega) (by omega)
            exact h0 (List.le_antisymm hq hp)
          · cases hj
      exact Classical.byContradiction fun h => hne (List.le_antisymm hya (List.not_lt.1 h))
    · rw [if_neg hk, List.append_nil]
      refine ⟨h1, fun y => ?_⟩
      rw [h2, List.mem_append, List.mem_singleton]
      refine ⟨Or.inl, fun h => h.elim id fun e => ?_⟩
      subst e
      unfold Go.Lib.keeps at hk
      have hk : ¬ (m = 0 ∨ zs.toArray[m]! ≠ zs.toArray[m - 1]!) := fun h => hk (decide_eq_true h)
      have hm0 : m ≠ 0 := fun e => hk (.inl e)
      have he : zs.toArray[m]! = zs.toArray[m - 1]! := Classical.not_not.1 fun e => hk (.inr e)
      rw [ed m hlt, ed (m - 1) (by omega)] at he
      rw [he]
      exact List.mem_of_getElem? (i := m - 1) (by rw [List.getElem?_take, if_pos (by omega), List.getElem?_eq_getElem])
end Go.Proofs.YtpobfgokikfmbaaGreatDoor

set_option linter.unusedSimpArgs false
set_option linter.unusedVariables false
set_option maxRecDepth 8000
namespace Go.Proofs.YtpobfgokikfmbaaGreatDoor
open Go.RowKit Go.Sort Go.WideShapes Col

/-- A text's bytes as the shelf has them, and back. -/
def tb (x : List Nat) : List UInt8 := (strB x).data.toList
def nb (z : List UInt8) : List Nat := z.map UInt8.toNat
theorem nb_wf (z : List UInt8) : WfT (nb z) := fun c hc => by
  obtain ⟨u, -, rfl⟩ := List.mem_map.1 hc
  exact u.toNat_lt
theorem tb_nb (z : List UInt8) : tb (nb z) = z := by
  unfold tb nb strB
  rw [strOfNums_data, List.map_map, List.map_map]
  conv => rhs; rw [← List.map_id z]
  refine List.map_congr_left fun u _ => ?_
  simp
theorem tb_inj {x y : List Nat} (hx : WfT x) (hy : WfT y) (h : tb x = tb y) : x = y := by
  refine strB_inj hx hy ?_
  exact ByteArray.ext (Array.ext' h)
theorem nb_tb {x : List Nat} (hx : WfT x) : nb (tb x) = x := tb_inj (nb_wf _) hx (tb_nb _)
theorem tvs_tb (l : List (List Nat)) : (l.map tb).map encStr = tvs l := by
  have h := Go.Lib.map_encStr (l.map strB)
  simp only [List.map_map] at h
  unfold tvs
  rw [List.map_map]
  exact h
theorem tvs_nb (zs : List (List UInt8)) : tvs (zs.map nb) = zs.map encStr := by
  have e : (zs.map nb).map tb = zs := by
    rw [List.map_map]
    conv => rhs; rw [← List.map_id zs]
    exact List.map_congr_left fun z _ => tb_nb z
  rw [← tvs_tb, e]
def srtZ (zs : List (List UInt8)) : List (List UInt8) := zs.mergeSort fun x y => decide (x ≤ y)
theorem srtZ_len (zs : List (List UInt8)) : (srtZ zs).length = zs.length := List.length_mergeSort zs
/-- Those that there are, rising. -/
def uqZ (l : List (List Nat)) : List (List Nat) := (Go.Lib.compact (srtZ (l.map tb))).map nb
theorem rise_of {zs : List (List UInt8)} (h : zs.Pairwise (· < ·)) : Rise (zs.map nb) := by
  unfold Rise
  rw [List.pairwise_map]
  refine h.imp fun {a b} hab => ?_
  rw [tls_dec, decide_eq_true_eq, Lib.toList_data, Lib.toList_data]
  have ea := tb_nb a
  have eb := tb_nb b
  unfold tb at ea eb
  rw [ea, eb]
  exact hab
theorem uqZ_eq (l : List (List Nat)) (hw : ∀ x ∈ l, WfT x) : uqZ l = uqL l := by
  obtain ⟨hr, hm⟩ := uqL_facts l hw
  have hs : (srtZ (l.map tb)).Pairwise (· ≤ ·) := by
    have h := List.pairwise_mergeSort (le := fun x y : List UInt8 => decide (x ≤ y)) (fun a b c h1 h2 => by
      rw [decide_eq_true_eq] at h1 h2 ⊢
      exact List.le_trans h1 h2) (fun a b => by
      rw [Bool.or_eq_true, decide_eq_true_eq, decide_eq_true_eq]
      exact List.le_total a b) (l.map tb)
    exact h.imp fun {a b} hab => of_decide_eq_true hab
  obtain ⟨h1, h2⟩ := com_facts _ hs _ (Nat.le_refl _)
  refine rise_ext (rise_of h1) hr fun y => ?_
  rw [hm]
  unfold uqZ
  rw [List.mem_map]
  constructor
  · rintro ⟨z, hz, rfl⟩
    have h3 := (h2 z).1 hz
    rw [List.take_length] at h3
    have h4 := (List.mergeSort_perm (l.map tb) _).mem_iff.1 h3
    obtain ⟨x, hx, rfl⟩ := List.mem_map.1 h4
    rw [nb_tb (hw x hx)]; exact hx
  · intro hy
    refine ⟨tb y, (h2 _).2 ?_, nb_tb (hw y hy)⟩
    rw [List.take_length]
    exact (List.mergeSort_perm (l.map tb) _).mem_iff.2 (List.mem_map.2 ⟨y, hy, rfl⟩)
theorem sort_txs (B g n c : Nat) (l : List (List Nat)) (hn5 : n ≤ 5000) (w : World) (H : Hid (OwnX w B (some ⟨g, 0, none⟩) n c l)) (hB : B ≤ w.heap.size) :
    Calls Tryz.prog 34 #[.slice (some ⟨g, 0, none⟩) n c] w fun e w' => e = .returned (.tuple #[]) ∧ OwnX w' B (some ⟨g, 0, none⟩) n c ((srtZ (l.map tb)).map nb) ∧ Below B w w' := by
  obtain ⟨hown, hwf⟩ := H.out
  rw [← tvs_tb] at hown
  obtain ⟨g', cap, he, hbg, hgl, hnc, hcm, hlen, hH⟩ := Go.Lib.holds_of_ownsRow hown (by simp)
  cases he
  have h : Calls Tryz.prog (sorT_ren.f 190) _ w _ := calls_of_every_depth fun D => AnyS.slices_Sort_string_alone sorT D g 0 c (l.map tb) w hH hgl (by omega)
  rw [hlen] at h
  change Calls Tryz.prog 34 _ _ _ at h
  refine h.mono fun e w' ⟨he, nn, os, hw⟩ => ⟨he, ⟨?_, fun x hx => ?_⟩, ?_⟩
  · rcases hown.2 with ⟨e0, _⟩ | ⟨g', cap', cur, e0, hb, hrow, h1, h2, h3, h4⟩
    · cases e0
    · cases e0
      have h5 := ownsRow_sorted (n := nn) (os := os) (ts := srtZ (l.map tb)) (ss := l.map tb) (srtZ_len _) hb hrow (by rw [hlen]; exact h1) h2 h3
      rw [hlen] at h5
      rw [tvs_nb, hw]
      exact h5
  · obtain ⟨z, -, rfl⟩ := List.mem_map.1 hx
    exact nb_wf z
  · rw [hw]
    exact (Below.refl B w).grown (grownBy_sorted _) hB (fun k hk => by injection hk with hk; omega)
theorem compact_txs (B g n c : Nat) (zs : List (List UInt8)) (hn5 : n ≤ 5000) (w : World) (H : Hid (OwnX w B (some ⟨g, 0, none⟩) n c (zs.map nb))) :
    Calls Tryz.prog 35 #[.slice (some ⟨g, 0, none⟩) n c] w fun e w' => e = .returned (.slice (some ⟨g, 0, none⟩) (Go.Lib.compact zs).length c) ∧ OwnX w' B (some ⟨g, 0, none⟩) (Go.Lib.compact zs).length c ((Go.Lib.compact zs).map nb) ∧ Below B w w' := by
  obtain ⟨hown, hwf⟩ := H.out
  rw [tvs_nb] at hown
  obtain ⟨g', cap, he, hbg, hgl, hnc, hcm, hlen, hH⟩ := Go.Lib.holds_of_ownsRow hown (by simp)
  cases he
  have hle := Go.Lib.compact_length_le zs
  have h : Calls Tryz.prog (comT_ren.f 194) _ w _ := calls_of_every_depth fun D => AnyS.slices_Compact_string_in comT D g 0 c zs w hH (by omega) (by omega)
  rw [hlen] at h
  change Calls Tryz.prog 35 _ _ _ at h
  refine h.mono fun e w' ⟨he, q, hw⟩ => ⟨he, ⟨?_, fun x hx => ?_⟩, ?_⟩
  · have hc := Go.Lib.ownsRow_putRow (q := q) (k := (Go.Lib.compact zs).length) (ys := Go.Lib.compact zs ++ List.replicate (n - (Go.Lib.compact zs).length) []) hown (by rw [List.length_append, List.length_replicate]; omega) (by omega)
    rw [List.take_left] at hc
    rw [tvs_nb, hw]
    exact hc
  · obtain ⟨z, -, rfl⟩ := List.mem_map.1 hx
    exact nb_wf z
  · rw [hw]
    exact Go.Lib.below_putRow (Below.refl B w) hbg
theorem clone_zeroX (a : Addr) (c : Nat) (w : World) :
    Calls Tryz.prog 33 #[.slice (some a) 0 c] w fun e w' => ∃ A1 c1, e = .returned (.slice A1 0 c1) ∧ OwnX w' w.heap.size A1 0 c1 [] ∧ Below w.heap.size w w' := by
  have q22 : ∀ w : World, (binOp .eql 41 (.slice (some a) 0 c) (.slice none 0 0)).run Tryz.prog w = .ok (.bool false) w := fun w => Lib.run_eql_slice_nil w _ _ (some a) 0 c 0 0 Tryz.underlying41
  have hO : OwnX (w.alloc (.cells #[] 9)) w.heap.size (some ⟨w.heap.size, 0, none⟩) 0 0 [] := ⟨⟨rfl, .inr ⟨w.heap.size, 0, #[], rfl, Nat.le_refl _, heap_alloc_new' w _, Nat.le_refl _, Nat.zero_le _, rfl, rfl⟩⟩, fun x hx => by cases hx⟩
  have HB0 := (Below.refl w.heap.size w).alloc (Nat.le_refl _) (.cells #[] 9)
  have hsz : w.heap.size ≤ (w.alloc (.cells #[] 9)).heap.size := HB0.size
  go_enter Tryz.func33, Tryz.ntmps33
  go_wp2
  go_ret
  exact ⟨_, _, rfl, hO, HB0⟩
/-- Of any texts, none of them too. -/
theorem clone_anyX (A0 : Option Addr) (n c : Nat) (l : List (List Nat)) (hn : Hid (n = l.length)) (hb : n ≤ 5000) (w : World) (H : Hid (TxAt w A0 l)) :
    Calls Tryz.prog 33 #[.slice A0 n c] w fun e w' => ∃ A1 c1, e = .returned (.slice A1 n c1) ∧ OwnX w' w.heap.size A1 n c1 l ∧ Below w.heap.size w w' := by
  rcases A0 with _ | a
  · have hl : l = [] := by
      rcases l with _ | ⟨x, r⟩
      · rfl
      · obtain ⟨-, g, off, e, -⟩ := H.out 0 x rfl; cases e
    subst hl
    have h0 : n = 0 := hn.out
    subst h0
    have h := AnyE.slices_Clone_nil cloT 0 c w
    change Calls Tryz.prog 33 _ _ _ at h
    exact h.mono fun e w' ⟨he, hw⟩ => ⟨none, 0, he, OwnX.nil _ _, by rw [hw]; exact Below.refl _ _⟩
  · by_cases h0 : 0 < n
    · obtain ⟨g, off, e, -, -⟩ := H.out.spot (by have := hn.out; omega)
      cases e
      exact (clone_txs g off n c l hn hb w H h0).mono fun e w' ⟨rb, cr, he, _, ho, hbl⟩ => ⟨_, _, he, ho, hbl⟩
    · have h0 : n = 0 := by omega
      subst h0
      have hl : l = [] := List.eq_nil_of_length_eq_zero hn.out.symm
      subst hl
      exact clone_zeroX a c w
theorem sort_anyX (B : Nat) (A : Option Addr) (n c : Nat) (l : List (List Nat)) (hn5 : n ≤ 5000) (w : World) (H : Hid (OwnX w B A n c l)) (hB : B ≤ w.heap.size) :
    Calls Tryz.prog 34 #[.slice A n c] w fun e w' => e = .returned (.tuple #[]) ∧ OwnX w' B A n c ((srtZ (l.map tb)).map nb) ∧ Below B w w' := by
  rcases H.out.1.2 with ⟨e0, h0⟩ | ⟨g, cap', cur, e0, hb, hrow, h1, h2, h3, h4⟩
  · cases e0
    have hl : l = [] := List.eq_nil_of_length_eq_zero H.out.len.symm
    subst hl
    have h : Calls Tryz.prog (sorT_ren.f 190) _ w _ := calls_of_every_depth fun D => AnyS.slices_Sort_string_none_alone sorT D none 0 w
    change Calls Tryz.prog 34 _ _ _ at h
    have e0 : srtZ [] = [] := List.eq_nil_of_length_eq_zero (srtZ_len [])
    rw [List.map_nil, e0]
    exact h.mono fun e w' ⟨he, hw⟩ => ⟨he, by rw [hw]; exact OwnX.nil _ _, by rw [hw]; exact Below.refl _ _⟩
  · cases e0
    exact sort_txs B g n c l hn5 w H hB
theorem compact_anyX (B : Nat) (A : Option Addr) (n c : Nat) (zs : List (List UInt8)) (hn5 : n ≤ 5000) (w : World) (H : Hid (OwnX w B A n c (zs.map nb))) :
    Calls Tryz.prog 35 #[.slice A n c] w fun e w' => ∃ A1 m, e = .returned (.slice A1 m c) ∧ OwnX w' B A1 m c ((Go.Lib.compact zs).map nb) ∧ Below B w w' := by
  rcases H.out.1.2 with ⟨e0, h0⟩ | ⟨g, cap', cur, e0, hb, hrow, h1, h2, h3, h4⟩
  · cases e0
    have hl : zs = [] := by
      have := H.out.len
      rw [List.length_map] at this
      exact List.eq_nil_of_length_eq_zero this.symm
    subst hl
    have h : Calls Tryz.prog (comT_ren.f 194) _ w _ := calls_of_every_depth fun D => AnyS.slices_Compact_string_empty_in comT D none 0 w
    change Calls Tryz.prog 35 _ _ _ at h
    exact h.mono fun e w' ⟨he, hw⟩ => ⟨none, 0, he, by rw [hw]; exact OwnX.nil _ _, by rw [hw]; exact Below.refl _ _⟩
  · cases e0
    exact (compact_txs B g n c zs hn5 w H).mono fun e w' ⟨he, ho, hb⟩ => ⟨_, _, he, ho, hb⟩
end Go.Proofs.YtpobfgokikfmbaaGreatDoor

set_option linter.unusedSimpArgs false
set_option linter.unusedVariables false
set_option maxRecDepth 8000
namespace Go.Proofs.YtpobfgokikfmbaaGreatDoor
open Go.RowKit Go.Sort Go.WideShapes Col

def binT_ren : Go.Shelf.Ren := ⟨fun | 26 => 36 | 33 => 70 | 34 => 71 | 38 => 104 | n => n, fun | 0 => 0 | 3 => 3 | 4 => 4 | 9 => 9 | 24 => 41 | 40 => 88 | n => n, fun n => n⟩
theorem binT : Go.Proofs.Lays2.n26 Tryz.prog binT_ren := {
  mixed := by kernel_rfl
  f26 := Tryz.func36.trans (congrArg some (by kernel_rfl))
  f33 := Tryz.func70.trans (congrArg some (by kernel_rfl))
  f34 := Tryz.func71.trans (congrArg some (by kernel_rfl))
  f38 := Tryz.func104.trans (congrArg some (by kernel_rfl))
  t0 := Tryz.underlying0
  a0 := Tryz.isAgg0
  z0 := Tryz.sizeOf0
  v0 := Tryz.zeroValue0
  t3 := Tryz.underlying3
  a3 := Tryz.isAgg3
  z3 := Tryz.sizeOf3
  v3 := Tryz.zeroValue3
  t4 := Tryz.underlying4
  a4 := Tryz.isAgg4
  z4 := Tryz.sizeOf4
  v4 := Tryz.zeroValue4
  t9 := Tryz.underlying9
  a9 := Tryz.isAgg9
  z9 := Tryz.sizeOf9
  v9 := Tryz.zeroValue9
  t24 := Tryz.underlying41
  a24 := Tryz.isAgg41
  z24 := Tryz.sizeOf41
  v24 := Tryz.zeroValue41
  t40 := Tryz.underlying88
  a40 := Tryz.isAgg88
  z40 := Tryz.sizeOf88
  v40 := Tryz.zeroValue88 }
end Go.Proofs.YtpobfgokikfmbaaGreatDoor

set_option linter.unusedSimpArgs false
set_option linter.unusedVariables false
set_option maxRecDepth 8000
namespace Go.Proofs.YtpobfgokikfmbaaGreatDoor
open Go.RowKit Go.Sort Go.WideShapes Col

theorem bin_any (g off n c : Nat) (all : List (List Nat)) (hn : n = all.length) (hn5 : n ≤ 5000) (hr : Rise all) (x : List Nat) (hx : x ∈ all) (w : World) (H : TxAt w (some ⟨g, off, none⟩) all) :
    Calls Tryz.prog 36 #[.slice (some ⟨g, off, none⟩) n c, .string (strB x)] w fun e w' => e = .returned (.tuple #[.int .i64 (plc all x : Int), .bool true]) ∧ Below w.heap.size w w' := by
  have hat := plc_at hx
  obtain ⟨hk, hkx⟩ := List.getElem?_eq_some_iff.1 hat
  have hget : ∀ t, t < all.length → ∃ a, all[t]? = some a ∧ all.getD t x = a := fun t ht => ⟨_, List.getElem?_eq_getElem ht, by rw [List.getD_eq_getElem?_getD, List.getElem?_eq_getElem ht]; rfl⟩
  have hs := Go.Lib.bsGo_spec (fun t => Op.bytesLess (strB (all.getD t x)).toList (strB x).toList) (plc all x) (fun t ht => by
      obtain ⟨a, h1, h2⟩ := hget t (by omega)
      show tls (all.getD t x) x = true
      rw [h2]
      obtain ⟨a1, a2⟩ := List.getElem?_eq_some_iff.1 h1
      have := List.pairwise_iff_getElem.1 hr t (plc all x) a1 hk ht
      rw [a2, hkx] at this; exact this) (fun t ht => by
      show tls (all.getD t x) x = false
      rcases Nat.lt_or_ge t all.length with h3 | h3
      · obtain ⟨a, h1, h2⟩ := hget t h3
        rw [h2]
        obtain ⟨a1, a2⟩ := List.getElem?_eq_some_iff.1 h1
        by_cases e : t = plc all x
        · subst e; rw [← a2, hkx]; exact tls_irr x
        · have := List.pairwise_iff_getElem.1 hr (plc all x) t hk a1 (by omega)
          rw [a2, hkx] at this; exact tls_asy this
      · rw [List.getD_eq_getElem?_getD, List.getElem?_eq_none h3]; exact tls_irr x) n 0 n (by omega) (Nat.zero_le _) (by omega)
  have h := Any2.slices_BinarySearch_string binT g off n c (fun t => strB (all.getD t x)) (strB x) w (by omega) (fun j hj => by
    obtain ⟨a, h1, h2⟩ := hget j (by omega)
    obtain ⟨-, g', off', e, -, hc⟩ := H j a h1
    injection e with e; injection e with e1 e2; subst e1; subst e2
    rw [h2]; exact hc)
  rw [hs] at h
  change Calls Tryz.prog 36 _ _ _ at h
  refine h.mono fun e w' ⟨he, q, hw⟩ => ⟨?_, by rw [hw]; exact ⟨rfl, rfl, rfl, Nat.le_refl _, fun _ _ => rfl⟩⟩
  rw [he]
  have hd : decide (plc all x < n ∧ (fun t => strB (all.getD t x)) (plc all x) = strB x) = true := decide_eq_true ⟨by omega, by
    show strB (all.getD (plc all x) x) = strB x
    rw [List.getD_eq_getElem?_getD, hat]; rfl⟩
  rw [hd]
end Go.Proofs.YtpobfgokikfmbaaGreatDoor

set_option linter.unusedSimpArgs false
set_option linter.unusedVariables false
set_option maxRecDepth 8000
namespace Go.Proofs.YtpobfgokikfmbaaGreatDoor
open Go.RowKit Go.WideShapes Col

theorem strCells_by (s : List Nat) (hs : WfT s) : Go.Lib.strCells (strB s) = bys s := by
  unfold Go.Lib.strCells strB bys
  rw [strOfNums_data, List.map_map, List.map_map]
  refine List.map_congr_left fun x hx => ?_
  show Value.int .u8 ((UInt8.ofNat (Int.ofNat x).toNat).toNat : Int) = .int .u8 (x : Int)
  rw [show (Int.ofNat x).toNat = x from rfl, UInt8.toNat_ofNat_of_lt' (by simpa using hs x hx)]
theorem ownStr {w : World} {B n : Nat} {v : Value} {l : List Value} (h : w.ownsRow B 5 1 v n l) : ∃ A cap, v = .slice A n cap := by
  rcases h.2 with ⟨e0, e1⟩ | ⟨g, cap', cur, e0, -⟩
  · exact ⟨none, 0, by rw [e0, e1]⟩
  · exact ⟨_, _, e0⟩
theorem ownB {w : World} {B n cap : Nat} {A : Option Addr} {l : List Nat} (h : OwnS w B A n cap l) : ∀ k, (Value.slice A n cap).ownBlock = some k → B ≤ k := fun k hk => by
  rcases A with _ | a
  · cases hk
  · exact h.base k (by simpa [Value.ownBlock] using hk)
set_option maxHeartbeats 2000000 in
theorem putT_any (B : Nat) (A : Option Addr) (n cap : Nat) (l s : List Nat) (hs : WfT s) (hl : s.length ≤ 1000000) (w : World) (H : Hid (OwnS w B A n cap l)) (hn : n ≤ 1099511627776) (hB : B ≤ w.heap.size) :
    Calls Tryz.prog 13 #[.slice A n cap, .string (strB s)] w (Puts B w (l ++ txL s)) := by
  obtain ⟨m, hm⟩ : ∃ m, m = s.length := ⟨_, rfl⟩
  have hsz : (strB s).size = m := by rw [strB_size, hm]
  have HSZ := Lib.hid hsz
  have hmw : IntKind.u64.wrap (m : Int) = (m : Int) := by rw [IntKind.wrap_u64]; omega
  have HU := Lib.hid (putU_any B A n cap l m (by omega) w H hn hB)
  have H10 : Hid ((ub m).length ≤ 10) := Lib.hid (ub10 (show m < 18446744073709551616 by omega))
  have HWS := Lib.hid hs
  have HM := Lib.hid hm
  have HLN : Hid (n = l.length) := Lib.hid H.out.len
  have hml : m ≤ 1000000 := by omega
  obtain ⟨i0, hi, hz0, hz1, hz2⟩ := info_parts infoU8
  have HI := Lib.hid (And.intro hi (And.intro hz0 (And.intro hz1 hz2)))
  clear hs hm hl hi hz0 hz1 hz2
  go_enter Tryz.func13, Tryz.ntmps13
  go_wp2_with (first
    | (go_at_call 31; (with_reducible refine (HU.out).mono ?_); rintro e w2 hp; obtain ⟨A2, n2, c2, rfl, HO2, HB2, hn2⟩ := hp.at; have HN2 := Lib.hid hn2; have hn10 : n2 ≤ n + 10 := (by have := H10.out; have := HLN.out; rw [hn2, List.length_append]; omega); have hB2 : B ≤ w2.heap.size := Nat.le_trans hB HB2.out.size; clear hp hn2)
    | (at_builtin; refine Go.Lib.wpList_append_own_string _ rfl (.tmp 9) (.tmp 10) 22 9 rfl B 5 i0 Tryz.underlying22 Tryz.underlying9 HI.out.1 HI.out.2.1 HI.out.2.2.1 HI.out.2.2.2 (.slice A2 n2 c2) n2 _ rfl HO2.out.1 (strB s) rfl (by rw [HSZ.out]; unfold maxLen; omega) (by rw [HSZ.out]; omega) hB2 ?_; intro v4 w4 ho4 hg4 hr4; rw [HSZ.out, strCells_by s HWS.out] at ho4; obtain ⟨A5, c5, hv4⟩ := ownStr ho4; subst hv4; have HO4 := Lib.hid ho4; have HB4 := Lib.hid (HB2.out.grown hg4 hB2 (ownB HO2.out)); clear ho4 hg4 hr4))
  have ho := HO4.out
  rw [show bys (l ++ ub m) ++ bys s = bys (l ++ txL s) by unfold txL bys; rw [← HM.out]; simp] at ho
  go_ret
  refine ⟨A5, _, c5, rfl, ⟨ho, fun x hx => ?_⟩, HB4.out, HB4.out.size⟩
  rcases List.mem_append.1 hx with h | h
  · exact H.out.2 x h
  · unfold txL at h
    rcases List.mem_append.1 h with h2 | h2
    · exact HO2.out.2 x (List.mem_append.2 (.inr (by rw [HM.out]; exact h2)))
    · exact HWS.out x h2
end Go.Proofs.YtpobfgokikfmbaaGreatDoor

set_option linter.unusedSimpArgs false
set_option linter.unusedVariables false
set_option maxRecDepth 8000
namespace Go.Proofs.YtpobfgokikfmbaaGreatDoor
open Go.RowKit Go.Sort Go.WideShapes Col

theorem flat_snoc (m : Nat) (all : List (List Nat)) (j : Nat) (s : List Nat) (h : all[j]? = some s) : ub m ++ ((all.take j).map txL).flatten ++ txL s = ub m ++ ((all.take (j + 1)).map txL).flatten := by
  rw [List.take_add_one, h]
  simp
theorem plc_wf (all : List (List Nat)) (hn : all.length ≤ 5000) (x : List Nat) : Wf64 (plc all x : Int) := by
  have := plc_le all x
  exact ⟨by omega, by omega⟩
theorem plc_snoc (all l : List (List Nat)) (k : Nat) (x : List Nat) (h : l[k]? = some x) : (l.map fun x => (plc all x : Int)).take (k + 1) = (l.map fun x => (plc all x : Int)).take k ++ [(plc all x : Int)] := by
  rw [List.take_add_one, List.getElem?_map, h]; rfl
set_option maxHeartbeats 8000000 in
theorem textsC_any (A0 : Option Addr) (n c : Nat) (l : List (List Nat)) (hn : Hid (n = l.length)) (hn5 : n ≤ 4096) (hl1 : Hid (∀ y ∈ l, y.length ≤ 1000000)) (W : World) (HL : Hid (TxAt W A0 l)) :
    Calls Tryz.prog 15 #[.slice A0 n c] W (Puts W.heap.size W (textsL l)) := by
  obtain ⟨iu, hiu, hz0, hz1, hz2⟩ := info_parts infoI64'
  have hzb : iu.bytes * n ≤ 281474976710656 := by rw [hz2]; omega
  have hnm : n ≤ maxLen := by unfold maxLen; omega
  have HWT : Hid (∀ y ∈ l, WfT y) := Lib.hid HL.out.wf
  have HEQ : Hid ((Go.Lib.compact (srtZ (l.map tb))).map nb = uqL l) := Lib.hid (uqZ_eq l HWT.out)
  obtain ⟨ur, hum⟩ := uqL_facts l HWT.out
  have HUR := Lib.hid ur; have HUM := Lib.hid hum
  have HUN : Hid ((uqL l).length ≤ 4096) := Lib.hid (Nat.le_trans (uqL_len l) (by have := hn.out; omega))
  have HUW : Hid (∀ y ∈ uqL l, WfT y ∧ y.length ≤ 1000000) := Lib.hid fun y hy => ⟨uqL_wf HWT.out y hy, hl1.out y ((HUM.out y).1 hy)⟩
  obtain ⟨all, hall⟩ : ∃ all, all = uqL l := ⟨_, rfl⟩
  have HXT : Hid (textsL l = ub all.length ++ (all.map txL).flatten ++ intsL (l.map fun x => (plc all x : Int))) := Lib.hid (by rw [hall]; rfl)
  rw [← hall] at HEQ HUR HUM HUN HUW
  clear hall ur hum
  go_enter Tryz.func15, Tryz.ntmps15
  go_wp2_with (first
    | (go_at_call 33; refine (clone_anyX A0 n c l hn (by omega) _ HL).mono ?_; rintro e w1 ⟨A1, c1, rfl, ho, hb⟩; have HO1 := Lib.hid ho; have HB1 := Lib.hid hb; clear ho hb)
    | (go_at_call 34; refine (sort_anyX W.heap.size A1 n c1 l (by omega) _ HO1 HB1.out.size).mono ?_; rintro e w2 ⟨rfl, ho, hb⟩; have HO2 := Lib.hid ho; have HB2 := Lib.hid (HB1.out.trans hb); clear ho hb)
    | (go_at_call 35; refine (compact_anyX W.heap.size A1 n c1 (srtZ (l.map tb)) (by omega) _ HO2).mono ?_; rintro e w3 ⟨Au, m, rfl, ho, hb⟩; rw [HEQ.out] at ho; have HOX := Lib.hid ho; have HB3 := Lib.hid (HB2.out.trans hb); have HML := Lib.hid ho.len; have hm4 : m ≤ 4096 := (by have := HML.out; have := HUN.out; omega); have hmw : IntKind.u64.wrap (m : Int) = (m : Int) := (by rw [IntKind.wrap_u64]; omega); clear ho hb)
    | (go_at_call 31; refine (putU_any w3.heap.size none 0 0 [] m (by omega) _ (Lib.hid (OwnS.nil _ _)) (by omega) (Nat.le_refl _)).mono ?_; rintro e w4 ⟨Ap, Np, cp, rfl, ho, hb, -⟩; rw [List.nil_append] at ho; have HP := Lib.hid ho; have HB4 := Lib.hid hb; clear ho hb))
  have HST3 : Hid (TX3 w3 all m (.slice Ap Np cp) (.int .i64 0) w4) := Lib.hid ⟨0, Np, Ap, cp, Nat.zero_le _, rfl, rfl, by have := HP.out.len; have := ub10 (show m < 18446744073709551616 by omega); omega, by show OwnS w4 w3.heap.size Ap Np cp (ub m ++ ([] : List (List Nat)).flatten); rw [List.flatten_nil, List.append_nil]; exact HP.out, HB4.out⟩
  clear HO1 HO2 HB1 HB2 HP HB4 HEQ
  go_loopw [4, 24] (fun up v wr => TX3 w3 all m up v wr) (fun _ v _ => m - (intOf v).toNat)
  case atStart => exact HST3.out
  case round =>
    obtain ⟨j, N, Ap, cp, hj, rfl, rfl, hN, hop, hbp⟩ := hrel
    have HOP := Lib.hid hop; have HBP := Lib.hid hbp
    clear hop hbp HST3
    by_cases hjm : j < m
    · have hji : (j : Int) < (m : Int) := by omega
      obtain ⟨s, hs⟩ : ∃ s, all[j]? = some s := ⟨_, List.getElem?_eq_getElem (by have := HML.out; omega)⟩
      have HS := Lib.hid hs
      have HSW := Lib.hid (HUW.out s (List.mem_of_getElem? hs))
      obtain ⟨ga, oa, hA, hga, hca⟩ := HOX.out.isAt.spot (by have := HML.out; omega)
      subst hA
      have hcs := (HBP.out.cell (p := ⟨ga, oa + j, none⟩) hga).trans (hca j s hs)
      have HT := Lib.hid (putT_any w3.heap.size Ap N cp _ s HSW.out.1 HSW.out.2 wr HOP (by omega) HBP.out.size)
      have HTL : Hid ((txL s).length ≤ 1000010) := Lib.hid (by unfold txL; rw [List.length_append]; have := HSW.out.2; have := ub10 (show s.length < 18446744073709551616 by omega); omega)
      clear hs hga hca
      go_wp2_with (go_at_call 13; (with_reducible refine (HT.out).mono ?_); rintro e w5 ⟨A5, n5, c5, rfl, ho, hb, -⟩; have HO5 := Lib.hid ho; have HB5 := Lib.hid hb; clear ho hb)
      go_roundw
      case rel =>
        have h5 := HO5.out
        rw [flat_snoc m all j s HS.out] at h5
        refine ⟨j + 1, n5, A5, c5, by omega, by go_num, rfl, ?_, h5, HBP.out.trans HB5.out⟩
        have e1 := HO5.out.len
        have e2 := HOP.out.len
        rw [List.length_append] at e1
        have := HTL.out
        omega
      case measure => simp [intOf]; omega
    · obtain rfl : j = m := by omega
      have HTK : Hid (all.take j = all) := Lib.hid (List.take_of_length_le (by have := HML.out; omega))
      rw [HTK.out] at HOP
      obtain ⟨wa, hwa⟩ : ∃ wa, wa = wr := ⟨_, rfl⟩
      have HWA : Hid (Below W.heap.size W wr) := Lib.hid (below_to HB3.out HBP.out)
      have HLEN : Hid ((l.map fun x => (plc all x : Int)).length = n) := Lib.hid (by rw [List.length_map]; exact hn.out.symm)
      go_wp2_with (refine wpList_make_full _ rfl (.tmp 33) (.tmp 33) 40 rfl wr.heap.size 2 iu (.int .i64 0) 1 Tryz.underlying40 hiu hz0 hz1 .i64 .i64 _ _ n rfl rfl rfl rfl hzb hnm (Nat.le_refl _) ?_; intro w6 own hgr; have HRI := Lib.hid (rowI_zeros own); have HB6 : Hid (Below wr.heap.size wr w6) := Lib.hid ((Below.refl _ wr).grown hgr (Nat.le_refl _) (by intro k hk; cases hk)); clear own hgr)
      rw [← hwa] at HRI HB6 HOP HBP HWA ⊢
      clear hwa
      obtain ⟨L, hL⟩ : ∃ L, L = wa.heap.size := ⟨_, rfl⟩
      rw [← hL] at HRI ⊢
      have HLE := Lib.hid hL
      clear hL
      go_loopw [37] (fun v wr => ∃ k : Nat, k ≤ n ∧ v = .int .i64 (k : Int) ∧ RowI wr L ((l.map fun x => (plc all x : Int)).take k ++ List.replicate (n - k) 0) ∧ Below L wa wr) (fun v _ => n - (intOf v).toNat)
      case atStart => exact ⟨0, Nat.zero_le _, rfl, by simpa using HRI.out, by rw [HLE.out]; exact HB6.out⟩
      case round =>
        obtain ⟨k, hk, rfl, hrow, hb⟩ := hrel
        have HROW := Lib.hid hrow; have HB : Hid (Below wa.heap.size wa wr) := Lib.hid (HLE.out ▸ hb)
        clear hrow hb HRI HB6
        have HBW : Hid (Below W.heap.size W wr) := Lib.hid (below_to HWA.out HB.out)
        by_cases hlt : k < n
        · have hki : (k : Int) < (n : Int) := by omega
          obtain ⟨x, hx⟩ : ∃ x, l[k]? = some x := ⟨l[k]'(by have := hn.out; omega), List.getElem?_eq_getElem _⟩
          have hxm : x ∈ all := (HUM.out x).2 (List.mem_of_getElem? hx)
          obtain ⟨hxw, g, off, rfl, -, hcx⟩ := (HL.out.keep HBW.out) k x hx
          have HSN := Lib.hid (plc_snoc all l k x hx)
          have hox := HOX.out.keep (HBP.out.trans (HB.out.mono HBP.out.size))
          obtain ⟨ga, oa, hA, hga, hca⟩ := hox.isAt.spot (List.length_pos_of_mem hxm)
          subst hA
          have HBN := Lib.hid (bin_any ga oa j c1 all HML.out (by omega) HUR.out x hxm wr hox.isAt)
          have f2 := HROW.out.fr k
          obtain ⟨u2, c2⟩ := HROW.out.at k (by rw [List.length_append, List.length_replicate, List.length_take]; have := HLEN.out; omega)
          have HSET := Lib.hid (fill_set ((l.map fun x => (plc all x : Int)).take k) n k (by rw [List.length_take]; have := HLEN.out; omega) hlt (plc all x : Int))
          clear hx hxm hga hca hox
          go_wp2_with (go_at_call 36; refine (HBN.out).mono ?_; rintro e w7 ⟨rfl, hb⟩; have HB7 := Lib.hid hb; have HR7 : Hid (RowI w7 L _) := Lib.hid (HROW.out.keep (Kept.of_below (S := fun _ => False) hb) (fun h => h)); have f7 := HR7.out.fr k; obtain ⟨u7, c7⟩ := HR7.out.at k (by rw [List.length_append, List.length_replicate, List.length_take]; have := HLEN.out; omega); clear hb)
          go_roundw
          case rel => exact ⟨k + 1, by omega, by go_num, by rw [HSN.out, ← HSET.out]; exact HR7.out.set k (plc all x : Int), by rw [HLE.out]; exact (below_to HB.out HB7.out).setCell (Nat.le_refl _) _⟩
          case measure => simp [intOf]; omega
        · obtain rfl : k = n := by omega
          have hki : ¬ (k : Int) < (k : Int) := by omega
          have hr := HROW.out
          rw [Nat.sub_self, List.replicate_zero, List.append_nil, List.take_of_length_le (by have := HLEN.out; omega)] at hr
          have HIW : Hid (∀ x ∈ (l.map fun x => (plc all x : Int)), Wf64 x) := Lib.hid (fun x hx => by obtain ⟨y, -, rfl⟩ := List.mem_map.1 hx; exact plc_wf all (by have := HML.out; omega) y)
          have HO := Lib.hid (hr.own (B := L) (Nat.le_refl _) HIW.out (by rw [HLEN.out]; exact hnm))
          rw [HLEN.out] at HO
          have HI := Lib.hid (ints_any (some ⟨L, 0, none⟩) k k (l.map fun x => (plc all x : Int)) (Lib.hid HLEN.out.symm) (Nat.le_refl _) (by omega) (by omega) wr (Lib.hid HO.out.isAt))
          have HIF : Hid ((intsL (l.map fun x => (plc all x : Int))).length ≤ 1000000) := Lib.hid (ints_few _ HIW.out (by rw [HLEN.out]; omega))
          have HPr := Lib.hid (HOP.out.keep HB.out)
          have hb3 : w3.heap.size ≤ wr.heap.size := Nat.le_trans HBP.out.size HB.out.size
          clear hr
          go_wp2_with (first
            | (go_at_call 14; (with_reducible refine (HI.out).mono ?_); rintro e w8 ⟨A8, n8, c8, rfl, h1, h2, h3⟩; have HO8 := Lib.hid h1; have HB8 := Lib.hid h2; have HP8 := Lib.hid (HPr.out.keep h2); have hn8 : n8 ≤ 1000000 := (by have := h1.len; have := HIF.out; omega); have hb8 : w3.heap.size ≤ w8.heap.size := (Nat.le_trans hb3 h3); clear h1 h2 h3)
            | (refine wpList_append_by rfl (.tmp 53) (.tmp 55) rfl w3.heap.size Ap N cp _ rfl HP8.out A8 n8 c8 (intsL (l.map fun x => (plc all x : Int))) rfl HO8.out.len HO8.out.byAt (by omega) hb8 ?_; intro A9 c9 w9 ho hg hr9; have HO9 := Lib.hid ho; have HB9 := Lib.hid (((HBP.out.trans (HB.out.mono HBP.out.size)).trans (HB8.out.mono hb3)).grown hg hb8 HP8.out.base); clear ho hg hr9))
          go_ret
          rw [HXT.out, ← HML.out]
          have hBW := below_to HB3.out HB9.out
          exact ⟨A9, _, c9, rfl, HO9.out.more HB3.out.size, hBW, hBW.size⟩
end Go.Proofs.YtpobfgokikfmbaaGreatDoor

set_option linter.unusedSimpArgs false
set_option linter.unusedVariables false
set_option maxRecDepth 8000
namespace Go.Proofs.YtpobfgokikfmbaaGreatDoor
namespace Pg

theorem xor_left (a b c : Nat) : a ^^^ (b ^^^ c) = b ^^^ (a ^^^ c) := by rw [← Nat.xor_assoc, Nat.xor_comm a b, Nat.xor_assoc]
theorem xor_same {x y : Nat} (h : x ^^^ y = 0) : x = y := by
  have h2 : x ^^^ (x ^^^ y) = x := by rw [h, Nat.xor_zero]
  rw [← Nat.xor_assoc, Nat.xor_self, Nat.zero_xor] at h2; exact h2.symm
theorem xor_mod (x y : Nat) : (x ^^^ y) % 2 = (x + y) % 2 := by
  have h := @Nat.xor_mod_two_eq_one x y
  omega
def poly : Nat := 3988292384
def full : Nat := 4294967295
/-- A bit's step. -/
def step (x : Nat) : Nat := if x % 2 = 1 then x / 2 ^^^ poly else x / 2
def steps : Nat → Nat → Nat
  | 0, x => x
  | n + 1, x => steps n (step x)

theorem step_xor (x y : Nat) : step (x ^^^ y) = step x ^^^ step y := by
  have hm : (x ^^^ y) % 2 = (x + y) % 2 := xor_mod x y
  have hd : (x ^^^ y) / 2 = x / 2 ^^^ y / 2 := Nat.xor_div_two
  unfold step
  rw [hd, hm]
  by_cases hx : x % 2 = 1 <;> by_cases hy : y % 2 = 1
  · rw [if_neg (by omega), if_pos hx, if_pos hy, show (x / 2 ^^^ poly) ^^^ (y / 2 ^^^ poly) = (x / 2 ^^^ y / 2) ^^^ (poly ^^^ poly) by simp only [Nat.xor_assoc, Nat.xor_comm, xor_left], Nat.xor_self, Nat.xor_zero]
  · rw [if_pos (by omega), if_pos hx, if_neg hy]; simp only [Nat.xor_assoc, Nat.xor_comm, xor_left]
  · rw [if_pos (by omega), if_neg hx, if_pos hy]; simp only [Nat.xor_assoc]
  · rw [if_neg (by omega), if_neg hx, if_neg hy]
theorem steps_xor : ∀ (n x y : Nat), steps n (x ^^^ y) = steps n x ^^^ steps n y
  | 0, _, _ => rfl
  | n + 1, x, y => by show steps n (step (x ^^^ y)) = _; rw [step_xor, steps_xor n]; rfl
theorem step_two (y : Nat) : step (2 * y) = y := by unfold step; rw [if_neg (by omega)]; omega
theorem steps_add : ∀ (m n x : Nat), steps (m + n) x = steps n (steps m x)
  | 0, n, x => by rw [Nat.zero_add]; rfl
  | m + 1, n, x => by rw [Nat.succ_add]; exact steps_add m n (step x)
theorem steps_pow : ∀ (n y : Nat), steps n (2 ^ n * y) = y
  | 0, y => by simp [steps]
  | n + 1, y => by
    show steps n (step (2 ^ (n + 1) * y)) = y
    rw [Nat.pow_succ, show 2 ^ n * 2 * y = 2 * (2 ^ n * y) by rw [Nat.mul_comm (2 ^ n) 2, Nat.mul_assoc], step_two, steps_pow n]
theorem steps_zero : ∀ n : Nat, steps n 0 = 0
  | 0 => rfl
  | n + 1 => steps_zero n
theorem step_lt {x : Nat} (h : x < 4294967296) : step x < 4294967296 := by
  unfold step
  split
  · exact Nat.xor_lt_two_pow (n := 32) (by omega) (by decide)
  · omega
theorem steps_lt : ∀ (n : Nat) {x : Nat}, x < 4294967296 → steps n x < 4294967296
  | 0, _, h => h
  | n + 1, _, h => steps_lt n (step_lt h)
theorem step_ne {x : Nat} (h : x < 4294967296) (h0 : x ≠ 0) : step x ≠ 0 := by
  unfold step
  split
  · intro e
    have e2 : x / 2 = poly := xor_same e
    unfold poly at e2; omega
  · omega
theorem steps_ne : ∀ (n : Nat) {x : Nat}, x < 4294967296 → x ≠ 0 → steps n x ≠ 0
  | 0, _, _, h0 => h0
  | n + 1, _, h, h0 => steps_ne n (step_lt h) (step_ne h h0)
theorem steps_inj (n : Nat) {x y : Nat} (hx : x < 4294967296) (hy : y < 4294967296) (h : steps n x = steps n y) : x = y := by
  rcases Nat.decEq (x ^^^ y) 0 with h0 | h0
  · exact absurd (by rw [steps_xor, h, Nat.xor_self]) (steps_ne n (Nat.xor_lt_two_pow (n := 32) hx hy) h0)
  · exact xor_same h0
/-- A number's upper part and its lower bits. -/
theorem split_xor (k x : Nat) : x = 2 ^ k * (x / 2 ^ k) ^^^ x % 2 ^ k := by
  apply Nat.eq_of_testBit_eq
  intro i
  rw [Nat.testBit_xor, Nat.testBit_two_pow_mul, Nat.testBit_mod_two_pow]
  by_cases h : k ≤ i
  · rw [Nat.testBit_div_two_pow]
    simp [h, show ¬ i < k by omega, Nat.sub_add_cancel h, Nat.add_sub_cancel' h]
  · simp [h, show i < k by omega]
theorem steps_split (k x : Nat) : steps k x = x / 2 ^ k ^^^ steps k (x % 2 ^ k) := by
  conv => lhs; rw [split_xor k x]
  rw [steps_xor, steps_pow]

/-- The table of the halves. -/
def half (i : Nat) : Nat := (#[0, 498536548, 997073096, 651767980, 1994146192, 1802195444, 1303535960, 1342533948, 3988292384, 4027552580, 3604390888, 3412177804, 2607071920, 2262029012, 2685067896, 3183342108] : Array Nat).getD i 0
theorem half_steps : ∀ i : _root_.Fin 16, half i.val = steps 4 i.val := by decide +kernel
theorem half_lt : ∀ i : _root_.Fin 16, half i.val < 4294967296 := by decide +kernel
theorem by_half (x : Nat) : x / 16 ^^^ half (x % 16) = steps 4 x := by
  rw [steps_split 4 x, half_steps ⟨x % 16, Nat.mod_lt _ (by decide)⟩]

/-- The rest behind a byte; behind bytes; the sum of bytes. -/
def byteOn (c b : Nat) : Nat := steps 8 (c ^^^ b)
def on (c : Nat) (l : List Nat) : Nat := l.foldl byteOn c
def sum (l : List Nat) : Nat := on full l ^^^ full
theorem byteOn_half (c b : Nat) : byteOn c b = steps 4 (c ^^^ b) / 16 ^^^ half (steps 4 (c ^^^ b) % 16) := by
  rw [by_half]; exact steps_add 4 4 _
theorem byteOn_lt {c b : Nat} (hc : c < 4294967296) (hb : b < 256) : byteOn c b < 4294967296 := steps_lt 8 (Nat.xor_lt_two_pow (n := 32) hc (by omega))
theorem on_lt : ∀ (l : List Nat) {c : Nat}, c < 4294967296 → (∀ x ∈ l, x < 256) → on c l < 4294967296
  | [], _, h, _ => h
  | b :: l, c, h, hl => on_lt l (byteOn_lt h (hl b (by simp))) (fun x hx => hl x (by simp [hx]))
theorem sum_lt {l : List Nat} (h : ∀ x ∈ l, x < 256) : sum l < 4294967296 := Nat.xor_lt_two_pow (n := 32) (on_lt l (by decide) h) (by decide)
theorem on_snoc (c : Nat) (l : List Nat) (b : Nat) : on c (l ++ [b]) = byteOn (on c l) b := by unfold on; rw [List.foldl_append]; rfl

/-- The document's way: bit by bit. -/
def bitOn (c b : Nat) : Nat → Nat
  | 0 => c
  | k + 1 => if (bitOn c b k ^^^ b / 2 ^ k) % 2 = 1 then bitOn c b k / 2 ^^^ poly else bitOn c b k / 2
theorem bitOn_steps (c b : Nat) : ∀ k : Nat, steps k (c ^^^ b) = bitOn c b k ^^^ b / 2 ^ k
  | 0 => by simp [steps, bitOn]
  | k + 1 => by
    rw [steps_add k 1, bitOn_steps c b k]
    show step _ = _
    have hd : (bitOn c b k ^^^ b / 2 ^ k) / 2 = bitOn c b k / 2 ^^^ b / 2 ^ (k + 1) := by rw [Nat.xor_div_two, Nat.div_div_eq_div_mul, Nat.pow_succ]
    unfold step
    show _ = (if (bitOn c b k ^^^ b / 2 ^ k) % 2 = 1 then bitOn c b k / 2 ^^^ poly else bitOn c b k / 2) ^^^ b / 2 ^ (k + 1)
    rw [hd]
    split
    · simp only [Nat.xor_assoc, Nat.xor_comm, xor_left]
    · rfl
theorem bitOn_byte (c b : Nat) (hb : b < 256) : bitOn c b 8 = byteOn c b := by
  unfold byteOn
  rw [bitOn_steps c b 8, show b / 2 ^ 8 = 0 by omega, Nat.xor_zero]
theorem bitOn_lt (c b : Nat) (hc : c < 4294967296) : ∀ k : Nat, bitOn c b k < 4294967296
  | 0 => hc
  | k + 1 => by
    have h := bitOn_lt c b hc k
    unfold bitOn
    split
    · exact Nat.xor_lt_two_pow (n := 32) (by omega) (by decide)
    · omega

/-! Bytes as one number -/
def val : List Nat → Nat
  | [] => 0
  | b :: l => b + 256 * val l
theorem val_cons_xor (b : Nat) (l : List Nat) (hb : b < 256) : val (b :: l) = b ^^^ 256 * val l := by
  have h := split_xor 8 (b + 256 * val l)
  rw [show (b + 256 * val l) / 2 ^ 8 = val l by omega, show (b + 256 * val l) % 2 ^ 8 = b by omega] at h
  show b + 256 * val l = _
  rw [h]; exact Nat.xor_comm _ _
theorem on_val : ∀ (l : List Nat) (c : Nat), (∀ x ∈ l, x < 256) → on c l = steps (8 * l.length) (c ^^^ val l)
  | [], c, _ => by simp [on, val, steps]
  | b :: l, c, h => by
    show on (byteOn c b) l = _
    rw [on_val l _ (fun x hx => h x (by simp [hx])), val_cons_xor b l (h b (by simp)), List.length_cons, Nat.mul_succ, Nat.add_comm (8 * l.length) 8, steps_add 8]
    rw [← Nat.xor_assoc, steps_xor 8 (c ^^^ b), show 256 * val l = 2 ^ 8 * val l from rfl, steps_pow 8]; rfl
theorem val_append : ∀ (l m : List Nat), val (l ++ m) = val l + 256 ^ l.length * val m
  | [], m => by simp [val]
  | b :: l, m => by
    show b + 256 * val (l ++ m) = b + 256 * val l + 256 ^ (l.length + 1) * val m
    rw [val_append l m, Nat.pow_succ, Nat.mul_comm (256 ^ l.length) 256, Nat.mul_assoc]; omega
theorem val_lt : ∀ (l : List Nat), (∀ x ∈ l, x < 256) → val l < 256 ^ l.length
  | [], _ => by simp [val]
  | b :: l, h => by
    have h1 := h b (by simp)
    have h2 := val_lt l (fun x hx => h x (by simp [hx]))
    show b + 256 * val l < 256 ^ (l.length + 1)
    rw [Nat.pow_succ]; omega
/-- A number as four bytes. -/
def four (n : Nat) : List Nat := [n % 256, n / 256 % 256, n / 65536 % 256, n / 16777216 % 256]
theorem val_four (n : Nat) (h : n < 4294967296) : val (four n) = n := by unfold four val val val val val; omega
theorem four_lt (n : Nat) : ∀ x ∈ four n, x < 256 := by
  intro x hx; unfold four at hx; simp at hx; omega
theorem four_val : ∀ (l : List Nat), l.length = 4 → (∀ x ∈ l, x < 256) → four (val l) = l
  | [a, b, c, d], _, h => by
    have h1 := h a (by simp); have h2 := h b (by simp); have h3 := h c (by simp); have h4 := h d (by simp)
    show [_, _, _, _] = _
    simp only [val]
    rw [show (a + 256 * (b + 256 * (c + 256 * (d + 256 * 0)))) % 256 = a by omega, show (a + 256 * (b + 256 * (c + 256 * (d + 256 * 0)))) / 256 % 256 = b by omega,
      show (a + 256 * (b + 256 * (c + 256 * (d + 256 * 0)))) / 65536 % 256 = c by omega, show (a + 256 * (b + 256 * (c + 256 * (d + 256 * 0)))) / 16777216 % 256 = d by omega]
/-- Bytes with a sum behind them: the sum is theirs just if the whole leaves what it must. -/
theorem whole_iff (l m : List Nat) (hl : ∀ x ∈ l, x < 256) (hm : ∀ x ∈ m, x < 256) (h4 : m.length = 4) : val m = sum l ↔ on full (l ++ m) = steps 32 full := by
  have hmv := val_lt m hm
  rw [h4] at hmv
  have h1 : on full (l ++ m) = steps 32 (on full l ^^^ val m) := by
    unfold on; rw [List.foldl_append]
    show on (on full l) m = _
    rw [on_val m _ hm, h4]; rfl
  rw [h1]
  have hs := on_lt l (c := full) (by decide) hl
  constructor
  · intro h
    rw [h]; unfold sum
    rw [← Nat.xor_assoc, Nat.xor_self, Nat.zero_xor]
  · intro h
    have := steps_inj 32 (Nat.xor_lt_two_pow (n := 32) hs (by omega)) (by decide) h
    show val m = on full l ^^^ full
    generalize on full l = z at this ⊢
    rw [← this, ← Nat.xor_assoc, Nat.xor_self, Nat.zero_xor]
/-- Bytes of which some were turned: the rest is the turned one's too. -/
theorem on_turned (l l' : List Nat) (q s : Nat) (hl : ∀ x ∈ l, x < 256) (hl' : ∀ x ∈ l', x < 256) (hn : l'.length = l.length) (hv : val l' = val l ^^^ 2 ^ s * q) (hs : s ≤ 8 * l.length) :
    on full l' = on full l ^^^ steps (8 * l.length - s) q := by
  rw [on_val l' _ hl', on_val l _ hl, hn, hv, ← Nat.xor_assoc, steps_xor]
  congr 1
  obtain ⟨d, hd⟩ : ∃ d, 8 * l.length = s + d := ⟨8 * l.length - s, by omega⟩
  rw [hd, steps_add, steps_pow, Nat.add_sub_cancel_left]
theorem turned_ne (l l' : List Nat) (q s : Nat) (hl : ∀ x ∈ l, x < 256) (hl' : ∀ x ∈ l', x < 256) (hn : l'.length = l.length) (hv : val l' = val l ^^^ 2 ^ s * q) (hs : s ≤ 8 * l.length) (hq : q < 4294967296) (h0 : q ≠ 0) :
    on full l' ≠ on full l := by
  rw [on_turned l l' q s hl hl' hn hv hs]
  intro h
  have h2 : on full l ^^^ (on full l ^^^ steps (8 * l.length - s) q) = 0 := by rw [h, Nat.xor_self]
  rw [← Nat.xor_assoc, Nat.xor_self, Nat.zero_xor] at h2
  exact steps_ne _ hq h0 h2
end Pg
end Go.Proofs.YtpobfgokikfmbaaGreatDoor

set_option linter.unusedSimpArgs false
set_option linter.unusedVariables false
set_option maxRecDepth 8000
namespace Go.Proofs.YtpobfgokikfmbaaGreatDoor
open Go.RowKit

theorem ret_eqP {v v' : Value} (h : v = v') : Ending.returned v = Ending.returned v' := by rw [h]
/-- The table's cells. -/
def HalvesAt (w : World) : Prop := ∀ i : Nat, i < 16 → w.cell? ⟨0, i, none⟩ = some (.int .u32 (Pg.half i : Nat))

theorem take_snoc' (l : List Nat) (k : Nat) (h : k < l.length) : l.take (k + 1) = l.take k ++ [l[k]] := by
  rw [List.take_succ_eq_append_getElem h]
theorem on_take (c : Nat) (l : List Nat) (k : Nat) (h : k < l.length) : Pg.on c (l.take (k + 1)) = Pg.byteOn (Pg.on c (l.take k)) l[k] := by
  rw [take_snoc' l k h, Pg.on_snoc]

/-- One half's step, in the walk's words. -/
theorem half_round (z : Nat) (hz : z < 4294967296) : bits .and .u32 (z : Int) 15 = ((z % 16 : Nat) : Int) ∧ bits .xor .u32 ((z : Int) / 16) (Pg.half (z % 16) : Nat) = ((Pg.steps 4 z : Nat) : Int) ∧ Pg.steps 4 z < 4294967296 := by
  refine ⟨?_, ?_, Pg.steps_lt 4 hz⟩
  · have h := u32_and_nat z 15 hz (by decide)
    rw [nat_mask4] at h; exact h
  · have h := u32_xor_nat (z / 16) (Pg.half (z % 16)) (by omega) (Pg.half_lt ⟨z % 16, Nat.mod_lt _ (by decide)⟩)
    rw [Pg.by_half] at h
    rw [← h]; congr 1

set_option maxHeartbeats 1000000 in
theorem sum_any (a : Option Addr) (l : List Nat) (len cap : Nat) (hlen : Hid (len = l.length)) (hl : len ≤ maxLen) (w : World) (HA : Hid (ByAt w a l)) (HG : Hid (HalvesAt w)) :
    Calls Tryz.prog 40 #[.slice a len cap] w fun e w' => e = .returned (.int .u32 (Pg.sum l : Nat)) ∧ w = w' := by
  unfold maxLen at hl
  go_enter Tryz.func40, Tryz.ntmps40
  go_wp2
  go_loop [3, 8] (fun c i => ∃ k : Nat, k ≤ len ∧ i = .int .i64 k ∧ c = .int .u32 (Pg.on Pg.full (l.take k) : Nat)) (fun _ i => len - (intOf i).toNat)
  case atStart => exact ⟨0, Nat.zero_le _, rfl, rfl⟩
  case round =>
    obtain ⟨k, hk, rfl, rfl⟩ := hrel
    by_cases hlt : k < len
    · have hkl : k < l.length := by have := hlen.out; omega
      obtain ⟨hx, g, off, rfl, hg, hc⟩ := HA.out k l[k] (List.getElem?_eq_getElem hkl)
      have hst := Lib.hid (on_take Pg.full l k hkl)
      have hc0 : Pg.on Pg.full (l.take k) < 4294967296 := Pg.on_lt _ (by decide) (fun x hx => HA.out.lt x (List.mem_of_mem_take hx))
      generalize Pg.on Pg.full (l.take k) = c at *
      generalize l[k] = b at *
      have hz : c ^^^ b < 4294967296 := Nat.xor_lt_two_pow (n := 32) hc0 (by omega)
      have e0 : bits .xor .u32 (c : Int) (b : Int) = ((c ^^^ b : Nat) : Int) := u32_xor_nat c b hc0 (by omega)
      have hb8 : Hid (Pg.byteOn c b = Pg.steps 4 (Pg.steps 4 (c ^^^ b))) := Lib.hid (Pg.steps_add 4 4 _)
      generalize c ^^^ b = z at *
      obtain ⟨e1, e2, hz2⟩ := half_round z hz
      have hc1 := HG.out (z % 16) (Nat.mod_lt _ (by decide))
      have hi1 : (0 : Int) ≤ ((z % 16 : Nat) : Int) := by omega
      have hj1 : ((z % 16 : Nat) : Int) < 16 := by omega
      have hn1 : (((z % 16 : Nat) : Int)).toNat = z % 16 := by omega
      generalize Pg.steps 4 z = y at *
      obtain ⟨e3, e4, hz3⟩ := half_round y hz2
      have hc2 := HG.out (y % 16) (Nat.mod_lt _ (by decide))
      have hi2 : (0 : Int) ≤ ((y % 16 : Nat) : Int) := by omega
      have hj2 : ((y % 16 : Nat) : Int) < 16 := by omega
      have hn2 : (((y % 16 : Nat) : Int)).toNat = y % 16 := by omega
      generalize Pg.half (z % 16) = h1 at *
      generalize Pg.half (y % 16) = h2 at *
      generalize z % 16 = m1 at *
      generalize y % 16 = m2 at *
      go_wp2
      go_round
      case rel => exact ⟨k + 1, by omega, by go_num, by rw [hst.out, hb8.out]⟩
      case measure => simp [intOf]; omega
    · have hT : Hid (l.take k = l) := Lib.hid (List.take_of_length_le (by have := hlen.out; omega))
      have hc0 : Pg.on Pg.full (l.take k) < 4294967296 := Pg.on_lt _ (by decide) (fun x hx => HA.out.lt x (List.mem_of_mem_take hx))
      have hs : Hid (Pg.sum l = Pg.on Pg.full (l.take k) ^^^ 4294967295) := Lib.hid (by rw [hT.out]; rfl)
      generalize Pg.on Pg.full (l.take k) = c at *
      have e0 : bits .xor .u32 IntKind.u32.max (c : Int) = ((c ^^^ 4294967295 : Nat) : Int) := by
        rw [Nat.xor_comm]; exact u32_xor_nat 4294967295 c (by decide) hc0
      go_wp2
      go_ret
      exact ⟨ret_eqP (by rw [hs.out]; rfl), rfl⟩

/-- One bit's step of the document's way, in the walk's words. -/
theorem bit_round (c b k : Nat) (hc : c < 4294967296) (hb : b < 256) :
    bits .xor .u32 (c : Int) ((b : Int) / 2 ^ k % 4294967296) = ((c ^^^ b / 2 ^ k : Nat) : Int) := by
  have hl : b / 2 ^ k < 256 := Nat.lt_of_le_of_lt (Nat.div_le_self _ _) hb
  rw [← u32_xor_nat c (b / 2 ^ k) hc (by omega)]
  congr 1
  have e : (b : Int) / 2 ^ k = ((b / 2 ^ k : Nat) : Int) := by push_cast; rfl
  rw [e]
  generalize b / 2 ^ k = q at *
  omega

set_option maxHeartbeats 1000000 in
theorem refSum_any (a : Option Addr) (l : List Nat) (len cap : Nat) (hlen : Hid (len = l.length)) (hl : len ≤ maxLen) (w : World) (HA : Hid (ByAt w a l)) :
    Calls Tryz.prog 57 #[.slice a len cap] w fun e w' => e = .returned (.int .u32 (Pg.sum l : Nat)) ∧ w = w' := by
  unfold maxLen at hl
  go_enter Tryz.func57, Tryz.ntmps57
  go_wp2
  go_loop [3, 4] (fun c i => ∃ k : Nat, k ≤ len ∧ i = .int .i64 k ∧ c = .int .u32 (Pg.on Pg.full (l.take k) : Nat)) (fun _ i => len - (intOf i).toNat)
  case atStart => exact ⟨0, Nat.zero_le _, rfl, rfl⟩
  case round =>
    obtain ⟨k, hk, rfl, rfl⟩ := hrel
    by_cases hlt : k < len
    · have hkl : k < l.length := by have := hlen.out; omega
      obtain ⟨hx, g, off, rfl, hg, hc⟩ := HA.out k l[k] (List.getElem?_eq_getElem hkl)
      have hst := Lib.hid (on_take Pg.full l k hkl)
      have hc0 : Pg.on Pg.full (l.take k) < 4294967296 := Pg.on_lt _ (by decide) (fun x hx => HA.out.lt x (List.mem_of_mem_take hx))
      generalize Pg.on Pg.full (l.take k) = c at *
      generalize l[k] = b at *
      have hfin := Lib.hid (Pg.bitOn_byte c b hx)
      have hbl := Lib.hid (Pg.bitOn_lt c b hc0)
      go_wp2
      go_loop [3, 5] (fun c' i => ∃ j : Nat, j ≤ 8 ∧ i = .int .i64 j ∧ c' = .int .u32 (Pg.bitOn c b j : Nat)) (fun _ i => 8 - (intOf i).toNat)
      case atStart => exact ⟨0, Nat.zero_le _, rfl, rfl⟩
      case round =>
        obtain ⟨j, hj, rfl, rfl⟩ := hrel
        by_cases hjt : j < 8
        · have h1 := hbl.out j
          have hs1 : Hid (Pg.bitOn c b (j + 1) = if (Pg.bitOn c b j ^^^ b / 2 ^ j) % 2 = 1 then Pg.bitOn c b j / 2 ^^^ Pg.poly else Pg.bitOn c b j / 2) := rfl
          have e0 := bit_round (Pg.bitOn c b j) b j h1 hx
          generalize Pg.bitOn c b j = y at *
          have hp : bits .xor .u32 ((y : Int) / 2) 3988292384 = ((y / 2 ^^^ Pg.poly : Nat) : Int) := u32_xor_nat (y / 2) Pg.poly (by omega) (by decide)
          generalize (y ^^^ b / 2 ^ j) = z at *
          go_wp2
          · have hz : ((z : Int).tmod 2 == 1) = true := by assumption
            rw [Int.tmod_eq_emod_of_nonneg (by omega)] at hz
            go_round
            case rel => exact ⟨j + 1, by omega, by go_num, by rw [hs1.out, if_pos (by rw [beq_iff_eq] at hz; omega)]⟩
            case measure => simp [intOf]; omega
          · have hz : ((z : Int).tmod 2 == 1) = false := by assumption
            rw [Int.tmod_eq_emod_of_nonneg (by omega)] at hz
            go_round
            case rel => exact ⟨j + 1, by omega, by go_num, by rw [hs1.out, if_neg (by rw [beq_eq_false_iff_ne] at hz; omega)]; go_num⟩
            case measure => simp [intOf]; omega
        · go_wp2
          go_round
          case rel => exact ⟨k + 1, by omega, by go_num, by rw [hst.out, ← hfin.out, show j = 8 by omega]⟩
          case measure => simp [intOf]; omega
    · have hT : Hid (l.take k = l) := Lib.hid (List.take_of_length_le (by have := hlen.out; omega))
      have hc0 : Pg.on Pg.full (l.take k) < 4294967296 := Pg.on_lt _ (by decide) (fun x hx => HA.out.lt x (List.mem_of_mem_take hx))
      have hs : Hid (Pg.sum l = Pg.on Pg.full (l.take k) ^^^ 4294967295) := Lib.hid (by rw [hT.out]; rfl)
      generalize Pg.on Pg.full (l.take k) = c at *
      have e0 : bits .xor .u32 (c : Int) 4294967295 = ((c ^^^ 4294967295 : Nat) : Int) := u32_xor_nat c 4294967295 hc0 (by decide)
      go_wp2
      go_ret
      exact ⟨ret_eqP (by rw [hs.out]; rfl), rfl⟩
end Go.Proofs.YtpobfgokikfmbaaGreatDoor

set_option linter.unusedSimpArgs false
set_option linter.unusedVariables false
set_option maxRecDepth 8000
namespace Go.Proofs.YtpobfgokikfmbaaGreatDoor
open Go.RowKit

theorem HalvesAt.keep {w w' : World} (h : HalvesAt w) (hb : Below w.heap.size w w') : HalvesAt w' := fun i hi =>
  (hb.cell (p := ⟨0, i, none⟩) (World.block_lt_of_cell? w _ (h i hi))).trans (h i hi)
theorem digits_sum : Pg.sum [49, 50, 51, 52, 53, 54, 55, 56, 57] = 3421780262 := by decide +kernel
theorem HalvesAt.at {w w' : World} (h : Hid (HalvesAt w)) (hb : Below w.heap.size w w') : Hid (HalvesAt w') := h.out.keep hb

end Go.Proofs.YtpobfgokikfmbaaGreatDoor

set_option linter.unusedSimpArgs false
set_option linter.unusedVariables false
set_option maxRecDepth 8000
namespace Go.Proofs.YtpobfgokikfmbaaGreatDoor
open Go.RowKit

def fourC (n : Nat) : Array Value := #[bv (n % 256), bv (n / 256 % 256), bv (n / 65536 % 256), bv (n / 16777216 % 256)]
theorem fourC_list (n : Nat) : (fourC n).toList = bys (Pg.four n) := rfl
theorem fourC_mk (n : Nat) (a b c d : Int) (ha : a = ((n % 256 : Nat) : Int)) (hb : b = ((n / 256 % 256 : Nat) : Int)) (hc : c = ((n / 65536 % 256 : Nat) : Int)) (hd : d = ((n / 16777216 % 256 : Nat) : Int)) :
    #[Value.int .u8 a, .int .u8 b, .int .u8 c, .int .u8 d] = fourC n := by subst ha hb hc hd; rfl
set_option maxHeartbeats 1000000 in
theorem word_any (n : Nat) (hn : n < 4294967296) (w : World) :
    Calls Tryz.prog 39 #[.int .u32 n] w fun e w' => e = .returned (.slice (some ⟨w.heap.size, 0, none⟩) 4 4) ∧ w.alloc (.cells (fourC n) 5) = w' := by
  go_enter Tryz.func39, Tryz.ntmps39
  go_wp2
  go_ret
  exact ⟨rfl, alloc_eq _ (fourC_mk n _ _ _ _ (by omega) (by omega) (by omega) (by omega)).symm⟩
set_option maxHeartbeats 1000000 in
theorem four_any (n : Nat) (hn : n < 4294967296) (w : World) :
    Calls Tryz.prog 56 #[.int .u32 n] w fun e w' => e = .returned (.slice (some ⟨w.heap.size, 0, none⟩) 4 4) ∧ w.alloc (.cells (fourC n) 5) = w' := by
  go_enter Tryz.func56, Tryz.ntmps56
  go_wp2
  go_ret
  exact ⟨rfl, alloc_eq _ (fourC_mk n _ _ _ _ (by omega) (by omega) (by omega) (by omega)).symm⟩

theorem or_join (a b c d : Nat) (ha : a < 256) (hb : b < 256) (hc : c < 256) (hd : d < 256) :
    a ||| b * 256 ||| c * 65536 ||| d * 16777216 = a + 256 * (b + 256 * (c + 256 * (d + 256 * 0))) := by
  have h1 : a ||| b * 256 = b * 256 + a := by rw [Nat.or_comm]; exact nat_join 8 (b * 256) a (by omega) (by omega)
  have h2 : (b * 256 + a) ||| c * 65536 = c * 65536 + (b * 256 + a) := by rw [Nat.or_comm]; exact nat_join 16 (c * 65536) _ (by omega) (by omega)
  have h3 : (c * 65536 + (b * 256 + a)) ||| d * 16777216 = d * 16777216 + (c * 65536 + (b * 256 + a)) := by rw [Nat.or_comm]; exact nat_join 24 (d * 16777216) _ (by omega) (by omega)
  rw [h1, h2, h3]; omega

set_option maxHeartbeats 1000000 in
theorem wordOf_any (a : Option Addr) (l : List Nat) (len cap : Nat) (hlen : Hid (len = l.length)) (h4 : 4 ≤ len) (hl : len ≤ maxLen) (w : World) (HA : Hid (ByAt w a l)) :
    Calls Tryz.prog 41 #[.slice a len cap] w fun e w' => e = .returned (.int .u32 (Pg.val (l.take 4) : Nat)) ∧ ∃ n, w' = w.drewN n := by
  unfold maxLen at hl
  obtain ⟨b0, b1, b2, b3, r, rfl⟩ : ∃ b0 b1 b2 b3 r, l = b0 :: b1 :: b2 :: b3 :: r := by
    have h := hlen.out
    match l, h with
    | b0 :: b1 :: b2 :: b3 :: r, _ => exact ⟨b0, b1, b2, b3, r, rfl⟩
    | [_, _, _], h => simp at h; omega
    | [_, _], h => simp at h; omega
    | [_], h => simp at h; omega
    | [], h => simp at h; omega
  obtain ⟨g, off, rfl, hg, hc⟩ := HA.out.spot (by simp)
  have c0 := hc 0 b0 rfl
  have c1 := hc 1 b1 rfl
  have c2 := hc 2 b2 rfl
  have c3 := hc 3 b3 rfl
  have l0 := HA.out.lt b0 (by simp)
  have l1 := HA.out.lt b1 (by simp)
  have l2 := HA.out.lt b2 (by simp)
  have l3 := HA.out.lt b3 (by simp)
  rw [Nat.add_zero] at c0
  clear hc
  have hj := Lib.hid (or_join b0 b1 b2 b3 l0 l1 l2 l3)
  have j0 : (0 : Int) < (len : Int) := by omega
  have j1 : (1 : Int) < (len : Int) := by omega
  have j2 : (2 : Int) < (len : Int) := by omega
  have j3 : (3 : Int) < (len : Int) := by omega
  have e1 : bits .or .u32 (b0 : Int) ((b1 : Int) * 256) = ((b0 ||| b1 * 256 : Nat) : Int) := u32_or_nat b0 (b1 * 256) (by omega) (by omega)
  have e2 : bits .or .u32 ((b0 ||| b1 * 256 : Nat) : Int) ((b2 : Int) * 65536) = ((b0 ||| b1 * 256 ||| b2 * 65536 : Nat) : Int) := u32_or_nat (b0 ||| b1 * 256) (b2 * 65536) (Nat.or_lt_two_pow (n := 32) (by omega) (by omega)) (by omega)
  have e3 : bits .or .u32 ((b0 ||| b1 * 256 ||| b2 * 65536 : Nat) : Int) ((b3 : Int) * 16777216) = ((b0 ||| b1 * 256 ||| b2 * 65536 ||| b3 * 16777216 : Nat) : Int) :=
    u32_or_nat (b0 ||| b1 * 256 ||| b2 * 65536) (b3 * 16777216) (Nat.or_lt_two_pow (n := 32) (Nat.or_lt_two_pow (n := 32) (by omega) (by omega)) (by omega)) (by omega)
  have hv : Hid (Pg.val ((b0 :: b1 :: b2 :: b3 :: r).take 4) = b0 + 256 * (b1 + 256 * (b2 + 256 * (b3 + 256 * 0)))) := rfl
  go_enter Tryz.func41, Tryz.ntmps41
  go_wp2
  go_quiet (fail)
  go_wp2
  go_ret
  exact ⟨ret_eqP (by rw [hv.out, ← hj.out]; rfl), _, rfl⟩
end Go.Proofs.YtpobfgokikfmbaaGreatDoor

set_option linter.unusedSimpArgs false
set_option linter.unusedVariables false
set_option maxRecDepth 8000
namespace Go.Proofs.YtpobfgokikfmbaaGreatDoor
open Go.RowKit

section
variable {w w' : World} {B n cap : Nat} {A : Option Addr} {l : List Nat}
end
set_option maxHeartbeats 1000000 in
theorem clone_any (a : Option Addr) (l : List Nat) (len cap : Nat) (hlen : Hid (len = l.length)) (hl : len ≤ 140737488355328) (w : World) (HA : Hid (ByAt w a l)) :
    Calls Tryz.prog 42 #[.slice a len cap] w (RetS w l) := by
  have q22 : ∀ (w : World) (a : Option Addr) (n c n' c' : Nat), (binOp .eql 22 (.slice a n c) (.slice none n' c')).run Tryz.prog w = .ok (.bool a.isNone) w := fun w a n c n' c' => Lib.run_eql_slice_nil w _ _ a n c n' c' Tryz.underlying22
  have hl9 : len ≤ maxLen := by unfold maxLen; omega
  rcases a with _ | ad
  · have e : l = [] := by
      rcases l with _ | ⟨x, r⟩
      · rfl
      · obtain ⟨-, g, off, e, -⟩ := HA.out 0 x rfl; cases e
    subst e
    have e : len = 0 := hlen.out
    subst e
    go_enter Tryz.func42, Tryz.ntmps42
    go_wp2
    go_ret
    exact ⟨none, 0, rfl, OwnS.nil _ _, Below.refl _ _⟩
  · have HA1 : Hid (ByAt (w.alloc (.cells #[] 5)) (some ad) l) := Lib.hid (HA.out.keep ((Below.refl _ _).alloc (Nat.le_refl _) _))
    have HO : Hid (OwnS (w.alloc (.cells #[] 5)) w.heap.size (some ⟨w.heap.size, 0, none⟩) 0 0 []) := Lib.hid ⟨World.ownsRow_made w #[] 0 (Nat.le_refl _) (Nat.zero_le _) (by simp), fun x hx => by cases hx⟩
    go_enter Tryz.func42, Tryz.ntmps42
    go_wp2_with (at_builtin; refine wpList_append_by rfl (.tmp 5) (.tmp 6) rfl w.heap.size (some ⟨w.heap.size, 0, none⟩) 0 0 [] rfl HO.out (some ad) len cap l rfl hlen.out HA1.out (by omega) (by simp) ?_; intro A' cap' w' hO hG hL)
    go_ret
    rw [Nat.zero_add, List.nil_append, hlen.out] at hO
    exact ⟨A', cap', by rw [← hlen.out]; rfl, hO, ((Below.refl _ w).alloc (Nat.le_refl _) _).grown hG (by simp) (by intro k hk; simp at hk; omega)⟩

/-! Cuts -/
end Go.Proofs.YtpobfgokikfmbaaGreatDoor

set_option linter.unusedSimpArgs false
set_option linter.unusedVariables false
set_option maxRecDepth 8000
namespace Go.Proofs.YtpobfgokikfmbaaGreatDoor
open Go.RowKit

/-- What Grow returns. -/
def RetG (w : World) (B n m : Nat) (l : List Nat) (e : Ending) (w' : World) : Prop := ∃ g cap cs, e = .returned (.slice (some ⟨g, 0, none⟩) n cap) ∧ Roomy w' B g n cap cs l ∧ n + m ≤ cap ∧ Below w.heap.size w w'

theorem zeroCells_len (n : Nat) : (Builtin.zeroCells (Value.int .u8 0).cells n).size = n := by
  unfold Builtin.zeroCells
  simp [Value.cells]

/-- There is no room: the append of Grow. -/
theorem grow_run (A : Option Addr) (n cap : Nat) (l : List Nat) (m : Nat) (B : Nat) (w : World) (HO : OwnS w B A n cap l) (hr : cap < n + m) (hbig : n + m ≤ 140737488355328) (hB : B ≤ w.heap.size) :
    ∃ W' G cs', (∀ ty, (Builtin.append_ #[22, 3] ty #[.slice A cap cap, .int .i64 ((n + m - cap : Nat) : Int)]).run Tryz.prog w = .ok (.slice (some ⟨w.heap.size, 0, none⟩) (n + m) G) W') ∧
      Roomy W' B w.heap.size n G cs' l ∧ n + m ≤ G ∧ Below w.heap.size w W' := by
  obtain ⟨hc1, hc2⟩ := HO.caps
  have hlen := HO.len
  obtain ⟨i0, hi0, hz0, hi1, hi2⟩ := info_parts infoU8
  obtain ⟨cs, hcl, hct, hold⟩ : ∃ cs : List Value, cs.length = cap ∧ cs.take n = bys l ∧ (Builtin.firstCells i0.size cap (.slice A cap cap)).run Tryz.prog w.drew = .ok cs.toArray w.drew := by
    rcases HO.1.2 with ⟨h1, h2⟩ | ⟨g, cap', cur, h1, hb, hrow, -, -, hs, ht⟩
    · cases h1
      have hl : l = [] := List.eq_nil_of_length_eq_zero hlen.symm
      subst hl
      exact ⟨[], rfl, rfl, run_firstCells_none w.drew i0.size 0 0 0⟩
    · cases h1
      refine ⟨cur.toList, by rw [Array.length_toList, hs, Nat.mul_one], by rw [← ht, Nat.mul_one], ?_⟩
      exact run_firstCells_some w.drew i0.size cap ⟨g, 0, none⟩ cap cap cur.toList (by rw [Array.length_toList, hs, hi1]) (fun j v hj => World.news_of_block (w := w.drew) hrow j v hj)
  have hck : cap + (n + m - cap) = n + m := by omega
  have hGn : n + m ≤ grownCap w (n + m) cap 5 := grownCap_ge w _ _ _
  have hG63 := grownCap_le_maxLen w (n + m) cap 5 (by unfold maxLen; omega)
  refine ⟨w.drew.alloc (.cells (cs.toArray ++ Builtin.zeroCells (Value.int .u8 0).cells (n + m - cap) ++ Builtin.zeroCells (Value.int .u8 0).cells (grownCap w (n + m) cap 5 - (n + m))) 5), grownCap w (n + m) cap 5, cs ++ ((Builtin.zeroCells (Value.int .u8 0).cells (n + m - cap)).toList ++ (Builtin.zeroCells (Value.int .u8 0).cells (grownCap w (n + m) cap 5 - (n + m))).toList), fun ty => ?_, ⟨?_, ?_, hG63, ?_, hB, HO.2⟩, hGn, ((Below.refl _ _).drew).alloc (Nat.le_refl _) _⟩
  · have h := Lib.run_append_grow_zeros w 22 3 ty 5 i0 (.int .u8 0) .i64 .i64 Tryz.underlying22 Tryz.underlying3 hi0 hz0 A cap cap cs hold (n + m - cap) (by omega) (by omega) (by omega) (by omega)
      (by rw [hi2]; omega) (by rw [hck]; exact growslice_fits (by omega) (by rw [hi2]; omega))
    rw [hck] at h
    exact h
  · rw [show w.heap.size = w.drew.heap.size from rfl, heap_alloc_new']
    congr 2
    simp
  · simp only [List.length_append, Array.length_toList, zeroCells_len, hcl]; omega
  · rw [List.take_append_of_le_length (by omega), hct]

set_option maxHeartbeats 400000 in
theorem grow_room (A : Option Addr) (n cap m : Nat) (w : World) (h1 : n ≤ cap) (h2 : cap ≤ 9223372036854775807) (hr : n + m ≤ cap) :
    Calls Tryz.prog 38 #[.slice A n cap, .int .i64 (m : Int)] w fun e w' => e = .returned (.slice A n cap) ∧ w = w' := by
  have h3 : ¬ ((m : Int) < 0) := by omega
  have h4 : ¬ ((m : Int) - ((cap : Int) - (n : Int)) > 0) := by omega
  go_enter Tryz.func38, Tryz.ntmps38
  go_wp2
  go_ret
  exact ⟨rfl, rfl⟩

set_option maxHeartbeats 400000 in
theorem grow_more (A : Option Addr) (n cap m : Nat) (w W' : World) (g G : Nat) (h1 : n ≤ cap) (h2 : cap ≤ 9223372036854775807) (hr : cap < n + m) (hbig : n + m ≤ 140737488355328) (hG : n + m ≤ G) (hG2 : G ≤ 9223372036854775807)
    (hA : A = none → cap = 0) (hrz : ∀ ty, (Builtin.append_ #[22, 3] ty #[.slice A cap cap, .int .i64 ((n + m - cap : Nat) : Int)]).run Tryz.prog w = .ok (.slice (some ⟨g, 0, none⟩) (n + m) G) W') :
    Calls Tryz.prog 38 #[.slice A n cap, .int .i64 (m : Int)] w fun e w' => e = .returned (.slice (some ⟨g, 0, none⟩) n G) ∧ W' = w' := by
  have h3 : ¬ ((m : Int) < 0) := by omega
  have h4 : (m : Int) - ((cap : Int) - (n : Int)) > 0 := by omega
  have hrz : ∀ ty, (Builtin.append_ #[22, 3] ty #[.slice A cap cap, .int .i64 ((m : Int) - ((cap : Int) - (n : Int)))]).run Tryz.prog w = .ok (.slice (some ⟨g, 0, none⟩) (n + m) G) W' := fun ty => by
    rw [show (m : Int) - ((cap : Int) - (n : Int)) = ((n + m - cap : Nat) : Int) by omega]; exact hrz ty
  obtain ⟨A1, C1, hcut, hsl⟩ : ∃ A1 C1, (∀ w, (Instr.slice 22 (.slice A n cap) none (some (.int .i64 (cap : Int))) none).run Tryz.prog w = .ok (.slice A1 cap C1) w) ∧ (A1 = A ∧ C1 = cap) := by
    refine ⟨A, cap, fun w => ?_, rfl, rfl⟩
    rw [run_slice_h w 22 A n cap Tryz.underlying22 .i64 (cap : Int) (by omega) (by omega)]
    rw [show (Go.sizeOf (Tryz.prog.elem 22)).run Tryz.prog w = .ok 1 w from by kernel_rfl]
    rcases A with _ | ⟨ab, ao, asp⟩
    · simp [Result.andThen, sliced]
    · simp [Result.andThen, sliced, Addr.add]
  obtain ⟨rfl, rfl⟩ := hsl
  go_enter Tryz.func38, Tryz.ntmps38
  go_wp2_with (at_builtin; refine Lib.wpList_append_run _ rfl _ _ _ _ rfl _ _ rfl rfl _ _ (hrz _) ?_)
  all_goals
    go_ret
    exact ⟨rfl, rfl⟩

theorem grow_any (A : Option Addr) (n cap : Nat) (l : List Nat) (m : Nat) (B : Nat) (w : World) (HO : Hid (OwnS w B A n cap l)) (hm : 0 < m) (hbig : n + m ≤ 140737488355328) (hB : B ≤ w.heap.size) :
    Calls Tryz.prog 38 #[.slice A n cap, .int .i64 (m : Int)] w (RetG w B n m l) := by
  obtain ⟨hc1, hc2⟩ := HO.out.caps
  have hlen := HO.out.len
  unfold maxLen at hc2
  by_cases hr : n + m ≤ cap
  · refine (grow_room A n cap m w hc1 (by omega) hr).mono ?_
    rintro e w' ⟨rfl, rfl⟩
    rcases HO.out.1.2 with ⟨h1, h2⟩ | ⟨g, cap', cur, h1, hb, hrow, -, -, hs, ht⟩
    · cases h1; omega
    · cases h1
      exact ⟨g, cap, cur.toList, rfl, ⟨hrow, by rw [Array.length_toList, hs, Nat.mul_one], by unfold maxLen; omega, by rw [← ht, Nat.mul_one], hb, HO.out.2⟩, hr, Below.refl _ _⟩
  · obtain ⟨W', G, cs', hrz, F, hG, hb⟩ := grow_run A n cap l m B w HO.out (by omega) hbig hB
    have hGm := F.cap
    unfold maxLen at hGm
    refine (grow_more A n cap m w W' w.heap.size G hc1 (by omega) (by omega) hbig hG (by omega) (fun hA => ?_) hrz).mono ?_
    · subst hA
      rcases HO.out.1.2 with ⟨h1, h2⟩ | ⟨g, cap', cur, h1, _⟩
      · cases h1; rfl
      · cases h1
    · rintro e w' ⟨rfl, rfl⟩
      exact ⟨_, _, _, rfl, F, hG, hb⟩
end Go.Proofs.YtpobfgokikfmbaaGreatDoor

set_option linter.unusedSimpArgs false
set_option linter.unusedVariables false
set_option maxRecDepth 8000
namespace Go.Proofs.YtpobfgokikfmbaaGreatDoor
open Go.RowKit
namespace Pg
/-- How many bytes a page says it has; what is wrong with it; its parts. -/
def sz (q : List Nat) : Nat := val (q.take 4)
def errOf (q : List Nat) : Nat :=
  if q.length < 9 then 3 else if 1048576 < sz q then 3 else if q.length < sz q + 9 then 3 else if val ((q.drop (5 + sz q)).take 4) = sum (q.take (5 + sz q)) then 0 else 4
def errAt (l : List Nat) (i : Int) : Nat := if i < 0 ∨ (l.length : Int) < i then 1 else errOf (l.drop i.toNat)
def kindAt (l : List Nat) (i : Int) : Nat := if errAt l i = 0 then (l.drop i.toNat).getD 4 0 else 0
def bodyAt (l : List Nat) (i : Int) : List Nat := if errAt l i = 0 then ((l.drop i.toNat).drop 5).take (sz (l.drop i.toNat)) else []
def endAt (l : List Nat) (i : Int) : Int := if errAt l i = 0 then i + 9 + sz (l.drop i.toNat) else 0
theorem kind_err {l : List Nat} {i : Int} (h : errAt l i ≠ 0) : kindAt l i = 0 := if_neg h
theorem body_err {l : List Nat} {i : Int} (h : errAt l i ≠ 0) : bodyAt l i = [] := if_neg h
theorem end_err {l : List Nat} {i : Int} (h : errAt l i ≠ 0) : endAt l i = 0 := if_neg h
end Pg

/-- What a reading returns: the parts, or an error. -/
def RetQ (w : World) (l : List Nat) (i : Int) (e : Ending) (w' : World) : Prop := ∃ A cap, e = .returned (.tuple #[.int .u8 (Pg.kindAt l i : Nat), .slice A (Pg.bodyAt l i).length cap, .int .i64 (Pg.endAt l i), .int .i64 (Pg.errAt l i : Nat)]) ∧
  ByAt w' A (Pg.bodyAt l i) ∧ (Pg.bodyAt l i).length ≤ cap ∧ cap ≤ maxLen ∧ Below w.heap.size w w'
theorem RetQ.err {w w' : World} {l : List Nat} {i : Int} (c : Nat) (h : Pg.errAt l i = c) (hc : c ≠ 0) (hb : Below w.heap.size w w') : RetQ w l i (.returned (.tuple #[.int .u8 0, .slice none 0 0, .int .i64 0, .int .i64 (c : Nat)])) w' := by
  have h0 : Pg.errAt l i ≠ 0 := by rw [h]; exact hc
  refine ⟨none, 0, ?_, ?_, ?_, Nat.zero_le _, hb⟩
  · rw [Pg.kind_err h0, Pg.body_err h0, Pg.end_err h0, h]; rfl
  · rw [Pg.body_err h0]; exact ByAt.nil _ _
  · rw [Pg.body_err h0]; exact Nat.le_refl _

theorem wordOf_at (a : Option Addr) (l : List Nat) (len cap : Nat) (hlen : Hid (len = l.length)) (h4 : 4 ≤ len) (hl : len ≤ maxLen) (w : World) (HA : Hid (ByAt w a l)) :
    Calls Tryz.prog 41 #[.slice a len cap] w fun e w' => e = .returned (.int .u32 (Pg.sz l : Nat)) ∧ Below w.heap.size w w' :=
  (wordOf_any a l len cap hlen h4 hl w HA).mono fun _ _ ⟨h, n, hn⟩ => ⟨h, by rw [hn]; exact below_drewN (Below.refl _ _) n⟩
theorem wordOf_q (a : Option Addr) (l : List Nat) (N : Nat) (hN : Pg.val (l.take 4) = N) (len cap : Nat) (hlen : Hid (len = l.length)) (h4 : 4 ≤ len) (hl : len ≤ maxLen) (w : World) (HA : Hid (ByAt w a l)) :
    Calls Tryz.prog 41 #[.slice a len cap] w fun e w' => e = .returned (.int .u32 (N : Nat)) ∧ ∃ n, w' = w.drewN n := by
  rw [← hN]; exact wordOf_any a l len cap hlen h4 hl w HA
theorem sum_q (a : Option Addr) (l : List Nat) (N : Nat) (hN : Pg.sum l = N) (len cap : Nat) (hlen : Hid (len = l.length)) (hl : len ≤ maxLen) (w : World) (HA : Hid (ByAt w a l)) (HG : Hid (HalvesAt w)) :
    Calls Tryz.prog 40 #[.slice a len cap] w fun e w' => e = .returned (.int .u32 (N : Nat)) ∧ w' = w := by
  rw [← hN]; exact (sum_any a l len cap hlen hl w HA HG).mono fun _ _ ⟨h, hw⟩ => ⟨h, hw.symm⟩

set_option maxHeartbeats 1000000 in
/-- Where the place is none. -/
theorem read_arg (a : Option Addr) (l : List Nat) (len cap : Nat) (i : Int) (hlen : Hid (len = l.length)) (hl : len ≤ maxLen) (hi : i < 0 ∨ (len : Int) < i) (w : World) :
    Calls Tryz.prog 18 #[.slice a len cap, .int .i64 i] w (RetQ w l i) := by
  have he : Hid (Pg.errAt l i = 1) := Lib.hid (by unfold Pg.errAt; rw [if_pos]; rw [← hlen.out]; exact hi)
  unfold maxLen at hl
  by_cases h0 : i < 0
  all_goals
    (try (have h1 : (len : Int) < i := by omega))
    clear hi
    go_enter Tryz.func18, Tryz.ntmps18
    go_wp2
    refine bodyPost_ret (results_tmp4 rfl _ _ _) rfl ?_
    exact RetQ.err 1 he.out (by decide) (Below.refl _ _)

/-- What stands there, and from where it is taken. -/
structure Rest (w : World) (a : Option Addr) (l : List Nat) (len cap k : Nat) (A : Option Addr) (n C : Nat) (q : List Nat) : Prop where
  run : ∀ w, (Instr.slice 22 (.slice a len cap) (some (.int .i64 (k : Int))) none none).run Tryz.prog w = .ok (.slice A n C) w
  len : Hid (n = q.length)
  cap : n ≤ C
  cap' : C ≤ maxLen
  byAt : Hid (ByAt w A q)
  err : Pg.errAt l (k : Int) = Pg.errOf q
  drop : l.drop ((k : Int)).toNat = q
theorem rest_of (a : Option Addr) (l : List Nat) (len cap k : Nat) (hlen : Hid (len = l.length)) (hk : k ≤ len) (hc : len ≤ cap) (hl : cap ≤ maxLen) (w : World) (HA : Hid (ByAt w a l)) :
    ∃ A n C q, Rest w a l len cap k A n C q := by
  obtain ⟨A, C, hr, h1, h2, h3⟩ := cut_from a len cap k hk hc
  refine ⟨A, len - k, C, l.drop k, hr, Lib.hid (by rw [List.length_drop, hlen.out]), h1, by omega, Lib.hid (h3 w l hlen.out HA.out), ?_, rfl⟩
  unfold Pg.errAt
  rw [if_neg (by have := hlen.out; omega)]; rfl

set_option maxHeartbeats 1000000 in
theorem read_short (a : Option Addr) (l : List Nat) (len cap k : Nat) (hk : k ≤ len) (A : Option Addr) (n C : Nat) (q : List Nat) (w : World) (R : Hid (Rest w a l len cap k A n C q)) (hn : n < 9) (hl : len ≤ maxLen) :
    Calls Tryz.prog 18 #[.slice a len cap, .int .i64 (k : Int)] w (RetQ w l k) := by
  have he : Hid (Pg.errAt l k = 3) := Lib.hid (by rw [R.out.err]; unfold Pg.errOf; rw [if_pos (by rw [← R.out.len.out]; exact hn)])
  have hr := R.out.run
  have h1 : ¬ (len : Int) < (k : Int) := by omega
  unfold maxLen at hl
  go_enter Tryz.func18, Tryz.ntmps18
  go_wp2
  refine bodyPost_ret (results_tmp4 rfl _ _ _) rfl ?_
  exact RetQ.err 3 he.out (by decide) (Below.refl _ _)

set_option maxHeartbeats 1000000 in
/-- Where it says more than there is, or than may be. -/
theorem read_long (a : Option Addr) (l : List Nat) (len cap k : Nat) (hk : k ≤ len) (A : Option Addr) (n C : Nat) (q : List Nat) (w : World) (R : Hid (Rest w a l len cap k A n C q)) (hn : ¬ n < 9) (hl : len ≤ maxLen)
    (hs : 1048576 < Pg.sz q ∨ n < Pg.sz q + 9) (hz : Pg.sz q < 4294967296) :
    Calls Tryz.prog 18 #[.slice a len cap, .int .i64 (k : Int)] w (RetQ w l k) := by
  have hc' := R.out.cap'
  have hcn := R.out.cap
  have he : Hid (Pg.errAt l k = 3) := Lib.hid (by
    have hq := R.out.len.out
    rw [R.out.err]; unfold Pg.errOf
    rw [if_neg (by omega)]
    by_cases h : 1048576 < Pg.sz q
    · rw [if_pos h]
    · rw [if_neg h, if_pos (by omega)])
  have hr := R.out.run
  have HL := R.out.len
  have HQ := R.out.byAt
  have h1 : ¬ (len : Int) < (k : Int) := by omega
  unfold maxLen at hl hc'
  obtain ⟨N, hN⟩ : ∃ N, N = Pg.sz q := ⟨_, rfl⟩
  rw [← hN] at hs hz
  have HN := Lib.hid hN
  clear hN
  by_cases h2 : 1048576 < N
  all_goals
    (try (have h3 : n < N + 9 := by omega))
    clear hs
    go_enter Tryz.func18, Tryz.ntmps18
    go_wp2_with (go_at_call 41; (refine (wordOf_at A q n C HL (by omega) (by unfold maxLen; omega) w HQ).mono ?_); rintro e w2 ⟨rfl, hb⟩; rw [← HN.out]; have HB := Lib.hid hb; clear hb)
    refine bodyPost_ret (results_tmp4 rfl _ _ _) rfl ?_
    exact RetQ.err 3 he.out (by decide) HB.out
end Go.Proofs.YtpobfgokikfmbaaGreatDoor
