/-
  Layer column: slices.BinarySearch of a text that is there, among texts that rise.
-/
import Derived.Test.YtifabkbdiiolfaaDoorUcK
import Derived.Shelf.SlicesE.Clone
import Derived.Shelf.Slices.In.SortAlone
import Derived.Shelf.Slices.In.CompactS
import Derived.Shelf.Spec.SearchS
set_option linter.unusedSimpArgs false
set_option linter.unusedVariables false
set_option maxRecDepth 8000
namespace Go.Proofs.YtifabkbdiiolfaaDoor
open Go.RowKit Go.WideShapes Col
theorem plc_at {all : List (List Nat)} {x : List Nat} (h : x ∈ all) : all[plc all x]? = some x := by
 induction all with
 | nil => cases h
 | cons a r ih =>
  rw [plc]
  by_cases e : a = x
  ·rw [if_pos e, e]; rfl
  ·rw [if_neg e, List.getElem?_cons_succ]
   exact ih ((List.mem_cons.1 h).resolve_left fun e2 => e e2.symm)
end Go.Proofs.YtifabkbdiiolfaaDoor

namespace Go.Proofs.YtifabkbdiiolfaaDoor
open Go.RowKit Go.Sort Go.WideShapes Col
def cloT_ren : Go.Shelf.Ren := ⟨fun | 41 => 54 | n => n, fun | 22 => 69 | 23 => 9 | 4 => 4 | n => n, fun n => n⟩
theorem cloT : Go.Proofs.SlLaysE0.n41 Tryd.prog cloT_ren := {
 mixed := by kernel_rfl
 f41 := ⟨Tryd.f54.name, by decide, Tryd.func54.trans (congrArg some (by kernel_rfl))⟩
 t4 := Tryd.underlying4
 a4 := Tryd.isAgg4
 z4 := Tryd.sizeOf4
 v4 := Tryd.zeroValue4
 t22 := Tryd.underlying69
 a22 := Tryd.isAgg69
 z22 := Tryd.sizeOf69
 v22 := Tryd.zeroValue69 }
theorem clone_txs (g off n c : Nat) (l : List (List Nat)) (hn : Hid (n = l.length)) (hb : n ≤ 5000) (w : World) (H : Hid (TxAt w (some ⟨g, off, none⟩) l)) (h0 : 0 < n) :
  Calls Tryd.prog 54 #[.slice (some ⟨g, off, none⟩) n c] w fun e w' => ∃ rb cr, e = .returned (.slice (some ⟨rb, 0, none⟩) n cr) ∧ w.heap.size ≤ rb ∧ OwnX w' w.heap.size (some ⟨rb, 0, none⟩) n cr l ∧ Below w.heap.size w w' := by
 obtain ⟨i0, hi, hz0, hz1, hz2⟩ := info_parts infoStr
 have h := AnyE.slices_Clone cloT i0 _ 1 16 hi hz0 hz1 hz2 rfl (by decide) Tryd.sizeOf9 g off n c (tvs l) w (by rw [tvs_length, ← hn.out]; omega) (by unfold maxLen; omega) (by omega) (fun j u hu => by
  have := tx_at H.out j u hu
  rwa [Addr.add_lit] at this) (tvs_one l)
 change Calls Tryd.prog 54 _ _ _ at h
 refine h.mono fun e w' ⟨v', he, hown, hv, hbl⟩ => ?_
 rcases hown.2 with ⟨e0, _⟩ | ⟨rb, cap, cur, e0, hb0, hrest⟩
 ·exact absurd e0 hv
 ·subst e0
  exact ⟨rb, cap, he, hb0, ⟨hown, H.out.wf⟩, hbl⟩
end Go.Proofs.YtifabkbdiiolfaaDoor

namespace Go.Proofs.YtifabkbdiiolfaaDoor
open Go.RowKit Go.Sort Go.WideShapes Col
def sorT_ren : Go.Shelf.Ren := ⟨fun | 125 => 70 | 128 => 91 | 129 => 79 | 190 => 55 | 258 => 69 | 302 => 83 | 303 => 84 | 304 => 85 | 305 => 86 | 306 => 87 | 307 => 88 | 308 => 71 | 309 => 89 | 310 => 90 | 329 => 96 | 330 => 97 | 333 => 95 | 334 => 98 | 335 => 99 | 336 => 92 | 344 => 100 | n => n, fun | 0 => 0 | 3 => 3 | 4 => 4 | 5 => 5 | 9 => 9 | 31 => 69 | 46 => 96 | 51 => 77 | 53 => 31 | 131 => 93 | 182 => 117 | 183 => 118 | 218 => 126 | 222 => 129 | 228 => 131 | 229 => 132 | n => n, fun n => n⟩
theorem sorT : Go.Proofs.Lays.n190 Tryd.prog sorT_ren := {
 mixed := by kernel_rfl
 f125 := Tryd.func70.trans (congrArg some (by kernel_rfl))
 f128 := Tryd.func91.trans (congrArg some (by kernel_rfl))
 f129 := Tryd.func79.trans (congrArg some (by kernel_rfl))
 f190 := Tryd.func55.trans (congrArg some (by kernel_rfl))
 f258 := Tryd.func69.trans (congrArg some (by kernel_rfl))
 f302 := Tryd.func83.trans (congrArg some (by kernel_rfl))
 f303 := Tryd.func84.trans (congrArg some (by kernel_rfl))
 f304 := Tryd.func85.trans (congrArg some (by kernel_rfl))
 f305 := Tryd.func86.trans (congrArg some (by kernel_rfl))
 f306 := Tryd.func87.trans (congrArg some (by kernel_rfl))
 f307 := Tryd.func88.trans (congrArg some (by kernel_rfl))
 f308 := Tryd.func71.trans (congrArg some (by kernel_rfl))
 f309 := Tryd.func89.trans (congrArg some (by kernel_rfl))
 f310 := Tryd.func90.trans (congrArg some (by kernel_rfl))
 f329 := Tryd.func96.trans (congrArg some (by kernel_rfl))
 f330 := Tryd.func97.trans (congrArg some (by kernel_rfl))
 f333 := Tryd.func95.trans (congrArg some (by kernel_rfl))
 f334 := Tryd.func98.trans (congrArg some (by kernel_rfl))
 f335 := Tryd.func99.trans (congrArg some (by kernel_rfl))
 f336 := Tryd.func92.trans (congrArg some (by kernel_rfl))
 f344 := Tryd.func100.trans (congrArg some (by kernel_rfl))
 t0 := Tryd.underlying0
 a0 := Tryd.isAgg0
 z0 := Tryd.sizeOf0
 v0 := Tryd.zeroValue0
 t3 := Tryd.underlying3
 a3 := Tryd.isAgg3
 z3 := Tryd.sizeOf3
 v3 := Tryd.zeroValue3
 t4 := Tryd.underlying4
 a4 := Tryd.isAgg4
 z4 := Tryd.sizeOf4
 v4 := Tryd.zeroValue4
 t5 := Tryd.underlying5
 a5 := Tryd.isAgg5
 z5 := Tryd.sizeOf5
 v5 := Tryd.zeroValue5
 t9 := Tryd.underlying9
 a9 := Tryd.isAgg9
 z9 := Tryd.sizeOf9
 v9 := Tryd.zeroValue9
 t31 := Tryd.underlying69
 a31 := Tryd.isAgg69
 z31 := Tryd.sizeOf69
 v31 := Tryd.zeroValue69
 t46 := Tryd.underlying96
 a46 := Tryd.isAgg96
 z46 := Tryd.sizeOf96
 v46 := Tryd.zeroValue96
 t51 := Tryd.underlying77
 a51 := Tryd.isAgg77
 z51 := Tryd.sizeOf77
 v51 := Tryd.zeroValue77
 t53 := Tryd.underlying31
 a53 := Tryd.isAgg31
 z53 := Tryd.sizeOf31
 v53 := Tryd.zeroValue31
 t131 := Tryd.underlying93
 a131 := Tryd.isAgg93
 z131 := Tryd.sizeOf93
 v131 := Tryd.zeroValue93
 t182 := Tryd.underlying117
 a182 := Tryd.isAgg117
 z182 := Tryd.sizeOf117
 v182 := Tryd.zeroValue117
 t183 := Tryd.underlying118
 a183 := Tryd.isAgg118
 z183 := Tryd.sizeOf118
 v183 := Tryd.zeroValue118
 t218 := Tryd.underlying126
 a218 := Tryd.isAgg126
 z218 := Tryd.sizeOf126
 v218 := Tryd.zeroValue126
 t222 := Tryd.underlying129
 a222 := Tryd.isAgg129
 z222 := Tryd.sizeOf129
 v222 := Tryd.zeroValue129
 t228 := Tryd.underlying131
 a228 := Tryd.isAgg131
 z228 := Tryd.sizeOf131
 v228 := Tryd.zeroValue131
 t229 := Tryd.underlying132
 a229 := Tryd.isAgg132
 z229 := Tryd.sizeOf132
 v229 := Tryd.zeroValue132 }
end Go.Proofs.YtifabkbdiiolfaaDoor

namespace Go.Proofs.YtifabkbdiiolfaaDoor
open Go.RowKit Go.Sort Go.WideShapes Col
def comT_ren : Go.Shelf.Ren := ⟨fun | 194 => 56 | n => n, fun | 0 => 0 | 3 => 3 | 4 => 4 | 9 => 9 | 31 => 69 | n => n, fun n => n⟩
theorem comT : Go.Proofs.Lays.n194 Tryd.prog comT_ren := {
 mixed := by kernel_rfl
 f194 := Tryd.func56.trans (congrArg some (by kernel_rfl))
 t0 := Tryd.underlying0
 a0 := Tryd.isAgg0
 z0 := Tryd.sizeOf0
 v0 := Tryd.zeroValue0
 t3 := Tryd.underlying3
 a3 := Tryd.isAgg3
 z3 := Tryd.sizeOf3
 v3 := Tryd.zeroValue3
 t4 := Tryd.underlying4
 a4 := Tryd.isAgg4
 z4 := Tryd.sizeOf4
 v4 := Tryd.zeroValue4
 t9 := Tryd.underlying9
 a9 := Tryd.isAgg9
 z9 := Tryd.sizeOf9
 v9 := Tryd.zeroValue9
 t31 := Tryd.underlying69
 a31 := Tryd.isAgg69
 z31 := Tryd.sizeOf69
 v31 := Tryd.zeroValue69 }
end Go.Proofs.YtifabkbdiiolfaaDoor

namespace Go.Proofs.YtifabkbdiiolfaaDoor
open Go.RowKit Go.Sort Go.WideShapes Col
theorem com_facts (zs : List (List UInt8)) (hs : zs.Pairwise (· ≤ ·)) : ∀ m, m ≤ zs.length → (Go.Lib.compactUpTo zs.toArray m).Pairwise (· < ·) ∧ ∀ y, y ∈ Go.Lib.compactUpTo zs.toArray m ↔ y ∈ zs.take m := by
 intro m
 induction m with
 | zero => intro _; exact ⟨List.Pairwise.nil, fun y => by rw [List.take_zero]; exact Iff.rfl⟩
 | succ m ih =>
  intro hm
  obtain ⟨h1, h2⟩ := ih (by omega)
  have hlt : m < zs.length := by omega
  have ed : ∀ j, (hj : j < zs.length) → zs.toArray[j]! = zs[j] := fun j hj => by simp [hj]
  have et : zs.take (m + 1) = zs.take m ++ [zs[m]] := by rw [List.take_add_one, List.getElem?_eq_getElem hlt]; rfl
  rw [Go.Lib.compactUpTo_succ, et]
  have hle : ∀ y ∈ zs.take m, y ≤ zs[m] := fun y hy => by
   obtain ⟨j, hj⟩ := List.getElem?_of_mem hy
   rw [List.getElem?_take] at hj
   split at hj
   ·rename_i hjm
    obtain ⟨a1, a2⟩ := List.getElem?_eq_some_iff.1 hj
    have := List.pairwise_iff_getElem.1 hs j m a1 hlt hjm
    rw [a2] at this; exact this
   ·cases hj
  by_cases hk : Go.Lib.keeps zs.toArray m = true
  ·rw [if_pos hk, ed m hlt]
   refine ⟨List.pairwise_append.2 ⟨h1, List.pairwise_singleton _ _, fun y hy z hz => ?_⟩, fun y => by rw [List.mem_append, List.mem_append, h2]⟩
   rw [List.mem_singleton] at hz; subst hz
   have hyt := (h2 y).1 hy
   have hya := hle y hyt
   have hne : y ≠ zs[m] := fun e => by
    unfold Go.Lib.keeps at hk
    rcases of_decide_eq_true hk with h0 | h0
    ·subst h0; rw [List.take_zero] at hyt; cases hyt
    ·have hm0 : 0 < m := by
      rcases Nat.eq_zero_or_pos m with e0 | e0
      ·subst e0; rw [List.take_zero] at hyt; cases hyt
      ·exact e0
     rw [ed m hlt, ed (m - 1) (by omega)] at h0
     have hp : zs[m - 1] ≤ zs[m] := List.pairwise_iff_getElem.1 hs (m - 1) m (by omega) hlt (by omega)
     obtain ⟨j, hj⟩ := List.getElem?_of_mem hyt
     rw [List.getElem?_take] at hj
     split at hj
     ·rename_i hjm
      obtain ⟨a1, a2⟩ := List.getElem?_eq_some_iff.1 hj
      have hq : zs[m] ≤ zs[m - 1] := by
       rw [← e, ← a2]
       by_cases ej : j = m - 1
       ·subst ej; exact List.le_refl _
       ·exact List.pairwise_iff_getElem.1 hs j (m - 1) a1 (by omega) (by omega)
      exact h0 (List.le_antisymm hq hp)
     ·cases hj
   exact Classical.byContradiction fun h => hne (List.le_antisymm hya (List.not_lt.1 h))
  ·rw [if_neg hk, List.append_nil]
   refine ⟨h1, fun y => ?_⟩
   rw [h2, List.mem_append, List.mem_singleton]
   refine ⟨Or.inl, fun h => h.elim id fun e => ?_⟩
   subst e
   unfold Go.Lib.keeps at hk
   have hk : ¬ (m = 0 ∨ zs.toArray[m]! ≠ zs.toArray[m - 1]!) := fun h => hk (decide_eq_true h)
   have hm0 : m ≠ 0 := fun e => hk (.inl e)
   have he : zs.toArray[m]! = zs.toArray[m - 1]! := Classical.not_not.1 fun e => hk (.inr e)
   rw [ed m hlt, ed (m - 1) (by omega)] at he
   rw [he]
   exact List.mem_of_getElem? (i := m - 1) (by rw [List.getElem?_take, if_pos (by omega), List.getElem?_eq_getElem])
end Go.Proofs.YtifabkbdiiolfaaDoor

namespace Go.Proofs.YtifabkbdiiolfaaDoor
open Go.RowKit Go.Sort Go.WideShapes Col
def binT_ren : Go.Shelf.Ren := ⟨fun | 26 => 57 | 33 => 71 | 34 => 72 | 38 => 92 | n => n, fun | 0 => 0 | 3 => 3 | 4 => 4 | 9 => 9 | 24 => 69 | 40 => 96 | n => n, fun n => n⟩
theorem binT : Go.Proofs.Lays2.n26 Tryd.prog binT_ren := {
 mixed := by kernel_rfl
 f26 := Tryd.func57.trans (congrArg some (by kernel_rfl))
 f33 := Tryd.func71.trans (congrArg some (by kernel_rfl))
 f34 := Tryd.func72.trans (congrArg some (by kernel_rfl))
 f38 := Tryd.func92.trans (congrArg some (by kernel_rfl))
 t0 := Tryd.underlying0
 a0 := Tryd.isAgg0
 z0 := Tryd.sizeOf0
 v0 := Tryd.zeroValue0
 t3 := Tryd.underlying3
 a3 := Tryd.isAgg3
 z3 := Tryd.sizeOf3
 v3 := Tryd.zeroValue3
 t4 := Tryd.underlying4
 a4 := Tryd.isAgg4
 z4 := Tryd.sizeOf4
 v4 := Tryd.zeroValue4
 t9 := Tryd.underlying9
 a9 := Tryd.isAgg9
 z9 := Tryd.sizeOf9
 v9 := Tryd.zeroValue9
 t24 := Tryd.underlying69
 a24 := Tryd.isAgg69
 z24 := Tryd.sizeOf69
 v24 := Tryd.zeroValue69
 t40 := Tryd.underlying96
 a40 := Tryd.isAgg96
 z40 := Tryd.sizeOf96
 v40 := Tryd.zeroValue96 }
end Go.Proofs.YtifabkbdiiolfaaDoor

namespace Go.Proofs.YtifabkbdiiolfaaDoor
open Go.RowKit Go.Sort Go.WideShapes Col
theorem bin_any (g off n c : Nat) (all : List (List Nat)) (hn : n = all.length) (hn5 : n ≤ 5000) (hr : Rise all) (x : List Nat) (hx : x ∈ all) (w : World) (H : TxAt w (some ⟨g, off, none⟩) all) :
  Calls Tryd.prog 57 #[.slice (some ⟨g, off, none⟩) n c, .string (strB x)] w fun e w' => e = .returned (.tuple #[.int .i64 (plc all x : Int), .bool true]) ∧ Below w.heap.size w w' := by
 have hat := plc_at hx
 obtain ⟨hk, hkx⟩ := List.getElem?_eq_some_iff.1 hat
 have hget : ∀ t, t < all.length → ∃ a, all[t]? = some a ∧ all.getD t x = a := fun t ht => ⟨_, List.getElem?_eq_getElem ht, by rw [List.getD_eq_getElem?_getD, List.getElem?_eq_getElem ht]; rfl⟩
 have hs := Go.Lib.bsGo_spec (fun t => Op.bytesLess (strB (all.getD t x)).toList (strB x).toList) (plc all x) (fun t ht => by
   obtain ⟨a, h1, h2⟩ := hget t (by omega)
   show tls (all.getD t x) x = true
   rw [h2]
   obtain ⟨a1, a2⟩ := List.getElem?_eq_some_iff.1 h1
   have := List.pairwise_iff_getElem.1 hr t (plc all x) a1 hk ht
   rw [a2, hkx] at this; exact this) (fun t ht => by
   show tls (all.getD t x) x = false
   rcases Nat.lt_or_ge t all.length with h3 | h3
   ·obtain ⟨a, h1, h2⟩ := hget t h3
    rw [h2]
    obtain ⟨a1, a2⟩ := List.getElem?_eq_some_iff.1 h1
    by_cases e : t = plc all x
    ·subst e; rw [← a2, hkx]; exact tls_irr x
    ·have := List.pairwise_iff_getElem.1 hr (plc all x) t hk a1 (by omega)
     rw [a2, hkx] at this; exact tls_asy this
   ·rw [List.getD_eq_getElem?_getD, List.getElem?_eq_none h3]; exact tls_irr x) n 0 n (by omega) (Nat.zero_le _) (by omega)
 have h := Any2.slices_BinarySearch_string binT g off n c (fun t => strB (all.getD t x)) (strB x) w (by omega) (fun j hj => by
  obtain ⟨a, h1, h2⟩ := hget j (by omega)
  obtain ⟨-, g', off', e, -, hc⟩ := H j a h1
  injection e with e; injection e with e1 e2; subst e1; subst e2
  rw [h2]; exact hc)
 rw [hs] at h
 change Calls Tryd.prog 57 _ _ _ at h
 refine h.mono fun e w' ⟨he, q, hw⟩ => ⟨?_, by rw [hw]; exact ⟨rfl, rfl, rfl, Nat.le_refl _, fun _ _ => rfl⟩⟩
 rw [he]
 have hd : decide (plc all x < n ∧ (fun t => strB (all.getD t x)) (plc all x) = strB x) = true := decide_eq_true ⟨by omega, by
  show strB (all.getD (plc all x) x) = strB x
  rw [List.getD_eq_getElem?_getD, hat]; rfl⟩
 rw [hd]
end Go.Proofs.YtifabkbdiiolfaaDoor
