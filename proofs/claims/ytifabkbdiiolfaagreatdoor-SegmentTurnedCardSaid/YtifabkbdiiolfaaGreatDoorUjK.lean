/-
  Layer column: slices.BinarySearch of a text that is there, among texts that rise.
-/
import Derived.Shelf.SlicesE.Clone
import Derived.Test.YtifabkbdiiolfaaGreatDoorUeK
import Derived.Shelf.Slices.In.SortAlone
import Derived.Shelf.Slices.In.CompactS
import Derived.Shelf.Spec.SearchS
set_option linter.unusedSimpArgs false
set_option linter.unusedVariables false
set_option maxRecDepth 8000
namespace Go.Proofs.YtifabkbdiiolfaaGreatDoor
open Go.RowKit Go.Sort Go.WideShapes Col
def cloT_ren : Go.Shelf.Ren := ⟨fun | 41 => 101 | n => n, fun | 22 => 60 | 23 => 9 | 4 => 4 | n => n, fun n => n⟩
theorem cloT : Go.Proofs.SlLaysE0.n41 Tryz.prog cloT_ren := {
 mixed := by kernel_rfl
 f41 := ⟨Tryz.f101.name, by decide, Tryz.func101.trans (congrArg some (by kernel_rfl))⟩
 t4 := Tryz.underlying4
 a4 := Tryz.isAgg4
 z4 := Tryz.sizeOf4
 v4 := Tryz.zeroValue4
 t22 := Tryz.underlying60
 a22 := Tryz.isAgg60
 z22 := Tryz.sizeOf60
 v22 := Tryz.zeroValue60 }
theorem clone_txs (g off n c : Nat) (l : List (List Nat)) (hn : Hid (n = l.length)) (hb : n ≤ 5000) (w : World) (H : Hid (TxAt w (some ⟨g, off, none⟩) l)) (h0 : 0 < n) :
  Calls Tryz.prog 101 #[.slice (some ⟨g, off, none⟩) n c] w fun e w' => ∃ rb cr, e = .returned (.slice (some ⟨rb, 0, none⟩) n cr) ∧ w.heap.size ≤ rb ∧ OwnX w' w.heap.size (some ⟨rb, 0, none⟩) n cr l ∧ Below w.heap.size w w' := by
 obtain ⟨i0, hi, hz0, hz1, hz2⟩ := info_parts infoStr
 have h := AnyE.slices_Clone cloT i0 _ 1 16 hi hz0 hz1 hz2 rfl (by decide) Tryz.sizeOf9 g off n c (tvs l) w (by rw [tvs_length, ← hn.out]; omega) (by unfold maxLen; omega) (by omega) (fun j u hu => by
  have := tx_at H.out j u hu
  rwa [Addr.add_lit] at this) (tvs_one l)
 change Calls Tryz.prog 101 _ _ _ at h
 refine h.mono fun e w' ⟨v', he, hown, hv, hbl⟩ => ?_
 rcases hown.2 with ⟨e0, _⟩ | ⟨rb, cap, cur, e0, hb0, hrest⟩
 ·exact absurd e0 hv
 ·subst e0
  exact ⟨rb, cap, he, hb0, ⟨hown, H.out.wf⟩, hbl⟩
end Go.Proofs.YtifabkbdiiolfaaGreatDoor

namespace Go.Proofs.YtifabkbdiiolfaaGreatDoor
open Go.RowKit Go.Sort Go.WideShapes Col
def sorT_ren : Go.Shelf.Ren := ⟨fun | 125 => 128 | 128 => 162 | 129 => 150 | 190 => 102 | 258 => 127 | 302 => 154 | 303 => 155 | 304 => 156 | 305 => 157 | 306 => 158 | 307 => 159 | 308 => 129 | 309 => 160 | 310 => 161 | 329 => 180 | 330 => 181 | 333 => 179 | 334 => 182 | 335 => 183 | 336 => 163 | 344 => 203 | n => n, fun | 0 => 0 | 3 => 3 | 4 => 4 | 5 => 5 | 9 => 9 | 31 => 60 | 46 => 160 | 51 => 23 | 53 => 24 | 131 => 104 | 182 => 202 | 183 => 203 | 218 => 229 | 222 => 232 | 228 => 246 | 229 => 247 | n => n, fun n => n⟩
theorem sorT : Go.Proofs.Lays.n190 Tryz.prog sorT_ren := {
 mixed := by kernel_rfl
 f125 := Tryz.func128.trans (congrArg some (by kernel_rfl))
 f128 := Tryz.func162.trans (congrArg some (by kernel_rfl))
 f129 := Tryz.func150.trans (congrArg some (by kernel_rfl))
 f190 := Tryz.func102.trans (congrArg some (by kernel_rfl))
 f258 := Tryz.func127.trans (congrArg some (by kernel_rfl))
 f302 := Tryz.func154.trans (congrArg some (by kernel_rfl))
 f303 := Tryz.func155.trans (congrArg some (by kernel_rfl))
 f304 := Tryz.func156.trans (congrArg some (by kernel_rfl))
 f305 := Tryz.func157.trans (congrArg some (by kernel_rfl))
 f306 := Tryz.func158.trans (congrArg some (by kernel_rfl))
 f307 := Tryz.func159.trans (congrArg some (by kernel_rfl))
 f308 := Tryz.func129.trans (congrArg some (by kernel_rfl))
 f309 := Tryz.func160.trans (congrArg some (by kernel_rfl))
 f310 := Tryz.func161.trans (congrArg some (by kernel_rfl))
 f329 := Tryz.func180.trans (congrArg some (by kernel_rfl))
 f330 := Tryz.func181.trans (congrArg some (by kernel_rfl))
 f333 := Tryz.func179.trans (congrArg some (by kernel_rfl))
 f334 := Tryz.func182.trans (congrArg some (by kernel_rfl))
 f335 := Tryz.func183.trans (congrArg some (by kernel_rfl))
 f336 := Tryz.func163.trans (congrArg some (by kernel_rfl))
 f344 := Tryz.func203.trans (congrArg some (by kernel_rfl))
 t0 := Tryz.underlying0
 a0 := Tryz.isAgg0
 z0 := Tryz.sizeOf0
 v0 := Tryz.zeroValue0
 t3 := Tryz.underlying3
 a3 := Tryz.isAgg3
 z3 := Tryz.sizeOf3
 v3 := Tryz.zeroValue3
 t4 := Tryz.underlying4
 a4 := Tryz.isAgg4
 z4 := Tryz.sizeOf4
 v4 := Tryz.zeroValue4
 t5 := Tryz.underlying5
 a5 := Tryz.isAgg5
 z5 := Tryz.sizeOf5
 v5 := Tryz.zeroValue5
 t9 := Tryz.underlying9
 a9 := Tryz.isAgg9
 z9 := Tryz.sizeOf9
 v9 := Tryz.zeroValue9
 t31 := Tryz.underlying60
 a31 := Tryz.isAgg60
 z31 := Tryz.sizeOf60
 v31 := Tryz.zeroValue60
 t46 := Tryz.underlying160
 a46 := Tryz.isAgg160
 z46 := Tryz.sizeOf160
 v46 := Tryz.zeroValue160
 t51 := Tryz.underlying23
 a51 := Tryz.isAgg23
 z51 := Tryz.sizeOf23
 v51 := Tryz.zeroValue23
 t53 := Tryz.underlying24
 a53 := Tryz.isAgg24
 z53 := Tryz.sizeOf24
 v53 := Tryz.zeroValue24
 t131 := Tryz.underlying104
 a131 := Tryz.isAgg104
 z131 := Tryz.sizeOf104
 v131 := Tryz.zeroValue104
 t182 := Tryz.underlying202
 a182 := Tryz.isAgg202
 z182 := Tryz.sizeOf202
 v182 := Tryz.zeroValue202
 t183 := Tryz.underlying203
 a183 := Tryz.isAgg203
 z183 := Tryz.sizeOf203
 v183 := Tryz.zeroValue203
 t218 := Tryz.underlying229
 a218 := Tryz.isAgg229
 z218 := Tryz.sizeOf229
 v218 := Tryz.zeroValue229
 t222 := Tryz.underlying232
 a222 := Tryz.isAgg232
 z222 := Tryz.sizeOf232
 v222 := Tryz.zeroValue232
 t228 := Tryz.underlying246
 a228 := Tryz.isAgg246
 z228 := Tryz.sizeOf246
 v228 := Tryz.zeroValue246
 t229 := Tryz.underlying247
 a229 := Tryz.isAgg247
 z229 := Tryz.sizeOf247
 v229 := Tryz.zeroValue247 }
end Go.Proofs.YtifabkbdiiolfaaGreatDoor

namespace Go.Proofs.YtifabkbdiiolfaaGreatDoor
open Go.RowKit Go.Sort Go.WideShapes Col
def comT_ren : Go.Shelf.Ren := ⟨fun | 194 => 103 | n => n, fun | 0 => 0 | 3 => 3 | 4 => 4 | 9 => 9 | 31 => 60 | n => n, fun n => n⟩
theorem comT : Go.Proofs.Lays.n194 Tryz.prog comT_ren := {
 mixed := by kernel_rfl
 f194 := Tryz.func103.trans (congrArg some (by kernel_rfl))
 t0 := Tryz.underlying0
 a0 := Tryz.isAgg0
 z0 := Tryz.sizeOf0
 v0 := Tryz.zeroValue0
 t3 := Tryz.underlying3
 a3 := Tryz.isAgg3
 z3 := Tryz.sizeOf3
 v3 := Tryz.zeroValue3
 t4 := Tryz.underlying4
 a4 := Tryz.isAgg4
 z4 := Tryz.sizeOf4
 v4 := Tryz.zeroValue4
 t9 := Tryz.underlying9
 a9 := Tryz.isAgg9
 z9 := Tryz.sizeOf9
 v9 := Tryz.zeroValue9
 t31 := Tryz.underlying60
 a31 := Tryz.isAgg60
 z31 := Tryz.sizeOf60
 v31 := Tryz.zeroValue60 }
end Go.Proofs.YtifabkbdiiolfaaGreatDoor

namespace Go.Proofs.YtifabkbdiiolfaaGreatDoor
open Go.RowKit Go.Sort Go.WideShapes Col
theorem com_facts (zs : List (List UInt8)) (hs : zs.Pairwise (· ≤ ·)) : ∀ m, m ≤ zs.length → (Go.Lib.compactUpTo zs.toArray m).Pairwise (· < ·) ∧ ∀ y, y ∈ Go.Lib.compactUpTo zs.toArray m ↔ y ∈ zs.take m := by
 intro m
 induction m with
 | zero => intro _; exact ⟨List.Pairwise.nil, fun y => by rw [List.take_zero]; exact Iff.rfl⟩
 | succ m ih =>
  intro hm
  obtain ⟨h1, h2⟩ := ih (by omega)
  have hlt : m < zs.length := by omega
  have ed : ∀ j, (hj : j < zs.length) → zs.toArray[j]! = zs[j] := fun j hj => by simp [hj]
  have et : zs.take (m + 1) = zs.take m ++ [zs[m]] := by rw [List.take_add_one, List.getElem?_eq_getElem hlt]; rfl
  rw [Go.Lib.compactUpTo_succ, et]
  have hle : ∀ y ∈ zs.take m, y ≤ zs[m] := fun y hy => by
   obtain ⟨j, hj⟩ := List.getElem?_of_mem hy
   rw [List.getElem?_take] at hj
   split at hj
   ·rename_i hjm
    obtain ⟨a1, a2⟩ := List.getElem?_eq_some_iff.1 hj
    have := List.pairwise_iff_getElem.1 hs j m a1 hlt hjm
    rw [a2] at this; exact this
   ·cases hj
  by_cases hk : Go.Lib.keeps zs.toArray m = true
  ·rw [if_pos hk, ed m hlt]
   refine ⟨List.pairwise_append.2 ⟨h1, List.pairwise_singleton _ _, fun y hy z hz => ?_⟩, fun y => by rw [List.mem_append, List.mem_append, h2]⟩
   rw [List.mem_singleton] at hz; subst hz
   have hyt := (h2 y).1 hy
   have hya := hle y hyt
   have hne : y ≠ zs[m] := fun e => by
    unfold Go.Lib.keeps at hk
    rcases of_decide_eq_true hk with h0 | h0
    ·subst h0; rw [List.take_zero] at hyt; cases hyt
    ·have hm0 : 0 < m := by
      rcases Nat.eq_zero_or_pos m with e0 | e0
      ·subst e0; rw [List.take_zero] at hyt; cases hyt
      ·exact e0
     rw [ed m hlt, ed (m - 1) (by omega)] at h0
     have hp : zs[m - 1] ≤ zs[m] := List.pairwise_iff_getElem.1 hs (m - 1) m (by omega) hlt (by omega)
     obtain ⟨j, hj⟩ := List.getElem?_of_mem hyt
     rw [List.getElem?_take] at hj
     split at hj
     ·rename_i hjm
      obtain ⟨a1, a2⟩ := List.getElem?_eq_some_iff.1 hj
      have hq : zs[m] ≤ zs[m - 1] := by
       rw [← e, ← a2]
       by_cases ej : j = m - 1
       ·subst ej; exact List.le_refl _
       ·exact List.pairwise_iff_getElem.1 hs j (m - 1) a1 (by omega) (by omega)
      exact h0 (List.le_antisymm hq hp)
     ·cases hj
   exact Classical.byContradiction fun h => hne (List.le_antisymm hya (List.not_lt.1 h))
  ·rw [if_neg hk, List.append_nil]
   refine ⟨h1, fun y => ?_⟩
   rw [h2, List.mem_append, List.mem_singleton]
   refine ⟨Or.inl, fun h => h.elim id fun e => ?_⟩
   subst e
   unfold Go.Lib.keeps at hk
   have hk : ¬ (m = 0 ∨ zs.toArray[m]! ≠ zs.toArray[m - 1]!) := fun h => hk (decide_eq_true h)
   have hm0 : m ≠ 0 := fun e => hk (.inl e)
   have he : zs.toArray[m]! = zs.toArray[m - 1]! := Classical.not_not.1 fun e => hk (.inr e)
   rw [ed m hlt, ed (m - 1) (by omega)] at he
   rw [he]
   exact List.mem_of_getElem? (i := m - 1) (by rw [List.getElem?_take, if_pos (by omega), List.getElem?_eq_getElem])
end Go.Proofs.YtifabkbdiiolfaaGreatDoor

namespace Go.Proofs.YtifabkbdiiolfaaGreatDoor
open Go.RowKit Go.Sort Go.WideShapes Col
def binT_ren : Go.Shelf.Ren := ⟨fun | 26 => 104 | 33 => 129 | 34 => 130 | 38 => 163 | n => n, fun | 0 => 0 | 3 => 3 | 4 => 4 | 9 => 9 | 24 => 60 | 40 => 160 | n => n, fun n => n⟩
theorem binT : Go.Proofs.Lays2.n26 Tryz.prog binT_ren := {
 mixed := by kernel_rfl
 f26 := Tryz.func104.trans (congrArg some (by kernel_rfl))
 f33 := Tryz.func129.trans (congrArg some (by kernel_rfl))
 f34 := Tryz.func130.trans (congrArg some (by kernel_rfl))
 f38 := Tryz.func163.trans (congrArg some (by kernel_rfl))
 t0 := Tryz.underlying0
 a0 := Tryz.isAgg0
 z0 := Tryz.sizeOf0
 v0 := Tryz.zeroValue0
 t3 := Tryz.underlying3
 a3 := Tryz.isAgg3
 z3 := Tryz.sizeOf3
 v3 := Tryz.zeroValue3
 t4 := Tryz.underlying4
 a4 := Tryz.isAgg4
 z4 := Tryz.sizeOf4
 v4 := Tryz.zeroValue4
 t9 := Tryz.underlying9
 a9 := Tryz.isAgg9
 z9 := Tryz.sizeOf9
 v9 := Tryz.zeroValue9
 t24 := Tryz.underlying60
 a24 := Tryz.isAgg60
 z24 := Tryz.sizeOf60
 v24 := Tryz.zeroValue60
 t40 := Tryz.underlying160
 a40 := Tryz.isAgg160
 z40 := Tryz.sizeOf160
 v40 := Tryz.zeroValue160 }
end Go.Proofs.YtifabkbdiiolfaaGreatDoor

namespace Go.Proofs.YtifabkbdiiolfaaGreatDoor
open Go.RowKit Go.Sort Go.WideShapes Col
theorem bin_any (g off n c : Nat) (all : List (List Nat)) (hn : n = all.length) (hn5 : n ≤ 5000) (hr : Rise all) (x : List Nat) (hx : x ∈ all) (w : World) (H : TxAt w (some ⟨g, off, none⟩) all) :
  Calls Tryz.prog 104 #[.slice (some ⟨g, off, none⟩) n c, .string (strB x)] w fun e w' => e = .returned (.tuple #[.int .i64 (plc all x : Int), .bool true]) ∧ Below w.heap.size w w' := by
 have hat := plc_at hx
 obtain ⟨hk, hkx⟩ := List.getElem?_eq_some_iff.1 hat
 have hget : ∀ t, t < all.length → ∃ a, all[t]? = some a ∧ all.getD t x = a := fun t ht => ⟨_, List.getElem?_eq_getElem ht, by rw [List.getD_eq_getElem?_getD, List.getElem?_eq_getElem ht]; rfl⟩
 have hs := Go.Lib.bsGo_spec (fun t => Op.bytesLess (strB (all.getD t x)).toList (strB x).toList) (plc all x) (fun t ht => by
   obtain ⟨a, h1, h2⟩ := hget t (by omega)
   show tls (all.getD t x) x = true
   rw [h2]
   obtain ⟨a1, a2⟩ := List.getElem?_eq_some_iff.1 h1
   have := List.pairwise_iff_getElem.1 hr t (plc all x) a1 hk ht
   rw [a2, hkx] at this; exact this) (fun t ht => by
   show tls (all.getD t x) x = false
   rcases Nat.lt_or_ge t all.length with h3 | h3
   ·obtain ⟨a, h1, h2⟩ := hget t h3
    rw [h2]
    obtain ⟨a1, a2⟩ := List.getElem?_eq_some_iff.1 h1
    by_cases e : t = plc all x
    ·subst e; rw [← a2, hkx]; exact tls_irr x
    ·have := List.pairwise_iff_getElem.1 hr (plc all x) t hk a1 (by omega)
     rw [a2, hkx] at this; exact tls_asy this
   ·rw [List.getD_eq_getElem?_getD, List.getElem?_eq_none h3]; exact tls_irr x) n 0 n (by omega) (Nat.zero_le _) (by omega)
 have h := Any2.slices_BinarySearch_string binT g off n c (fun t => strB (all.getD t x)) (strB x) w (by omega) (fun j hj => by
  obtain ⟨a, h1, h2⟩ := hget j (by omega)
  obtain ⟨-, g', off', e, -, hc⟩ := H j a h1
  injection e with e; injection e with e1 e2; subst e1; subst e2
  rw [h2]; exact hc)
 rw [hs] at h
 change Calls Tryz.prog 104 _ _ _ at h
 refine h.mono fun e w' ⟨he, q, hw⟩ => ⟨?_, by rw [hw]; exact ⟨rfl, rfl, rfl, Nat.le_refl _, fun _ _ => rfl⟩⟩
 rw [he]
 have hd : decide (plc all x < n ∧ (fun t => strB (all.getD t x)) (plc all x) = strB x) = true := decide_eq_true ⟨by omega, by
  show strB (all.getD (plc all x) x) = strB x
  rw [List.getD_eq_getElem?_getD, hat]; rfl⟩
 rw [hd]
end Go.Proofs.YtifabkbdiiolfaaGreatDoor
