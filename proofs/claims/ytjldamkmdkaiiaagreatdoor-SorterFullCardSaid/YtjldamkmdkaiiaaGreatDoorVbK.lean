/-
  Layer column: Texts of any texts.
-/
import Derived.Shelf.SlicesE.Clone
import Derived.Test.YtjldamkmdkaiiaaGreatDoorUeK
import Derived.Shelf.Slices.In.SortAlone
import Derived.Shelf.Slices.In.CompactS
import Derived.Shelf.Slices.In.SortNone
import Derived.Sort.OwnSorted
import Derived.Sort.EveryDepth
import Derived.Lib.OwnBridge
import Derived.Lib.RowBridge
import Derived.Shelf.Spec.SearchS
import Derived.Test.YtjldamkmdkaiiaaGreatDoorCaK
import Derived.Test.YtjldamkmdkaiiaaGreatDoorCfK
set_option linter.unusedSimpArgs false
set_option linter.unusedVariables false
set_option maxRecDepth 8000
namespace Go.Proofs.YtjldamkmdkaiiaaGreatDoor
open Go.RowKit Go.Sort Go.WideShapes Col
def cloT_ren : Go.Shelf.Ren := ⟨fun | 41 => 95 | n => n, fun | 22 => 37 | 23 => 9 | 4 => 4 | n => n, fun n => n⟩
theorem cloT : Go.Proofs.SlLaysE0.n41 Tryz.prog cloT_ren := {
 mixed := by kernel_rfl
 f41 := ⟨Tryz.f95.name, by decide, Tryz.func95.trans (congrArg some (by kernel_rfl))⟩
 t4 := Tryz.underlying4
 a4 := Tryz.isAgg4
 z4 := Tryz.sizeOf4
 v4 := Tryz.zeroValue4
 t22 := Tryz.underlying37
 a22 := Tryz.isAgg37
 z22 := Tryz.sizeOf37
 v22 := Tryz.zeroValue37 }
theorem clone_txs (g off n c : Nat) (l : List (List Nat)) (hn : Hid (n = l.length)) (hb : n ≤ 5000) (w : World) (H : Hid (TxAt w (some ⟨g, off, none⟩) l)) (h0 : 0 < n) :
  Calls Tryz.prog 95 #[.slice (some ⟨g, off, none⟩) n c] w fun e w' => ∃ rb cr, e = .returned (.slice (some ⟨rb, 0, none⟩) n cr) ∧ w.heap.size ≤ rb ∧ OwnX w' w.heap.size (some ⟨rb, 0, none⟩) n cr l ∧ Below w.heap.size w w' := by
 obtain ⟨i0, hi, hz0, hz1, hz2⟩ := info_parts infoStr
 have h := AnyE.slices_Clone cloT i0 _ 1 16 hi hz0 hz1 hz2 rfl (by decide) Tryz.sizeOf9 g off n c (tvs l) w (by rw [tvs_length, ← hn.out]; omega) (by unfold maxLen; omega) (by omega) (fun j u hu => by
  have := tx_at H.out j u hu
  rwa [Addr.add_lit] at this) (tvs_one l)
 change Calls Tryz.prog 95 _ _ _ at h
 refine h.mono fun e w' ⟨v', he, hown, hv, hbl⟩ => ?_
 rcases hown.2 with ⟨e0, _⟩ | ⟨rb, cap, cur, e0, hb0, hrest⟩
 ·exact absurd e0 hv
 ·subst e0
  exact ⟨rb, cap, he, hb0, ⟨hown, H.out.wf⟩, hbl⟩
def sorT_ren : Go.Shelf.Ren := ⟨fun | 125 => 127 | 128 => 160 | 129 => 148 | 190 => 96 | 258 => 126 | 302 => 152 | 303 => 153 | 304 => 154 | 305 => 155 | 306 => 156 | 307 => 157 | 308 => 128 | 309 => 158 | 310 => 159 | 329 => 184 | 330 => 185 | 333 => 183 | 334 => 186 | 335 => 187 | 336 => 161 | 344 => 197 | n => n, fun | 0 => 0 | 3 => 3 | 4 => 4 | 5 => 5 | 9 => 9 | 31 => 37 | 46 => 92 | 51 => 148 | 53 => 48 | 131 => 60 | 182 => 196 | 183 => 197 | 218 => 217 | 222 => 221 | 228 => 227 | 229 => 228 | n => n, fun n => n⟩
theorem sorT : Go.Proofs.Lays.n190 Tryz.prog sorT_ren := {
 mixed := by kernel_rfl
 f125 := Tryz.func127.trans (congrArg some (by kernel_rfl))
 f128 := Tryz.func160.trans (congrArg some (by kernel_rfl))
 f129 := Tryz.func148.trans (congrArg some (by kernel_rfl))
 f190 := Tryz.func96.trans (congrArg some (by kernel_rfl))
 f258 := Tryz.func126.trans (congrArg some (by kernel_rfl))
 f302 := Tryz.func152.trans (congrArg some (by kernel_rfl))
 f303 := Tryz.func153.trans (congrArg some (by kernel_rfl))
 f304 := Tryz.func154.trans (congrArg some (by kernel_rfl))
 f305 := Tryz.func155.trans (congrArg some (by kernel_rfl))
 f306 := Tryz.func156.trans (congrArg some (by kernel_rfl))
 f307 := Tryz.func157.trans (congrArg some (by kernel_rfl))
 f308 := Tryz.func128.trans (congrArg some (by kernel_rfl))
 f309 := Tryz.func158.trans (congrArg some (by kernel_rfl))
 f310 := Tryz.func159.trans (congrArg some (by kernel_rfl))
 f329 := Tryz.func184.trans (congrArg some (by kernel_rfl))
 f330 := Tryz.func185.trans (congrArg some (by kernel_rfl))
 f333 := Tryz.func183.trans (congrArg some (by kernel_rfl))
 f334 := Tryz.func186.trans (congrArg some (by kernel_rfl))
 f335 := Tryz.func187.trans (congrArg some (by kernel_rfl))
 f336 := Tryz.func161.trans (congrArg some (by kernel_rfl))
 f344 := Tryz.func197.trans (congrArg some (by kernel_rfl))
 t0 := Tryz.underlying0
 a0 := Tryz.isAgg0
 z0 := Tryz.sizeOf0
 v0 := Tryz.zeroValue0
 t3 := Tryz.underlying3
 a3 := Tryz.isAgg3
 z3 := Tryz.sizeOf3
 v3 := Tryz.zeroValue3
 t4 := Tryz.underlying4
 a4 := Tryz.isAgg4
 z4 := Tryz.sizeOf4
 v4 := Tryz.zeroValue4
 t5 := Tryz.underlying5
 a5 := Tryz.isAgg5
 z5 := Tryz.sizeOf5
 v5 := Tryz.zeroValue5
 t9 := Tryz.underlying9
 a9 := Tryz.isAgg9
 z9 := Tryz.sizeOf9
 v9 := Tryz.zeroValue9
 t31 := Tryz.underlying37
 a31 := Tryz.isAgg37
 z31 := Tryz.sizeOf37
 v31 := Tryz.zeroValue37
 t46 := Tryz.underlying92
 a46 := Tryz.isAgg92
 z46 := Tryz.sizeOf92
 v46 := Tryz.zeroValue92
 t51 := Tryz.underlying148
 a51 := Tryz.isAgg148
 z51 := Tryz.sizeOf148
 v51 := Tryz.zeroValue148
 t53 := Tryz.underlying48
 a53 := Tryz.isAgg48
 z53 := Tryz.sizeOf48
 v53 := Tryz.zeroValue48
 t131 := Tryz.underlying60
 a131 := Tryz.isAgg60
 z131 := Tryz.sizeOf60
 v131 := Tryz.zeroValue60
 t182 := Tryz.underlying196
 a182 := Tryz.isAgg196
 z182 := Tryz.sizeOf196
 v182 := Tryz.zeroValue196
 t183 := Tryz.underlying197
 a183 := Tryz.isAgg197
 z183 := Tryz.sizeOf197
 v183 := Tryz.zeroValue197
 t218 := Tryz.underlying217
 a218 := Tryz.isAgg217
 z218 := Tryz.sizeOf217
 v218 := Tryz.zeroValue217
 t222 := Tryz.underlying221
 a222 := Tryz.isAgg221
 z222 := Tryz.sizeOf221
 v222 := Tryz.zeroValue221
 t228 := Tryz.underlying227
 a228 := Tryz.isAgg227
 z228 := Tryz.sizeOf227
 v228 := Tryz.zeroValue227
 t229 := Tryz.underlying228
 a229 := Tryz.isAgg228
 z229 := Tryz.sizeOf228
 v229 := Tryz.zeroValue228 }
def comT_ren : Go.Shelf.Ren := ⟨fun | 194 => 97 | n => n, fun | 0 => 0 | 3 => 3 | 4 => 4 | 9 => 9 | 31 => 37 | n => n, fun n => n⟩
theorem comT : Go.Proofs.Lays.n194 Tryz.prog comT_ren := {
 mixed := by kernel_rfl
 f194 := Tryz.func97.trans (congrArg some (by kernel_rfl))
 t0 := Tryz.underlying0
 a0 := Tryz.isAgg0
 z0 := Tryz.sizeOf0
 v0 := Tryz.zeroValue0
 t3 := Tryz.underlying3
 a3 := Tryz.isAgg3
 z3 := Tryz.sizeOf3
 v3 := Tryz.zeroValue3
 t4 := Tryz.underlying4
 a4 := Tryz.isAgg4
 z4 := Tryz.sizeOf4
 v4 := Tryz.zeroValue4
 t9 := Tryz.underlying9
 a9 := Tryz.isAgg9
 z9 := Tryz.sizeOf9
 v9 := Tryz.zeroValue9
 t31 := Tryz.underlying37
 a31 := Tryz.isAgg37
 z31 := Tryz.sizeOf37
 v31 := Tryz.zeroValue37 }
theorem com_facts (zs : List (List UInt8)) (hs : zs.Pairwise (· ≤ ·)) : ∀ m, m ≤ zs.length → (Go.Lib.compactUpTo zs.toArray m).Pairwise (· < ·) ∧ ∀ y, y ∈ Go.Lib.compactUpTo zs.toArray m ↔ y ∈ zs.take m := by
 intro m
 induction m with
 | zero => intro _; exact ⟨List.Pairwise.nil, fun y => by rw [List.take_zero]; exact Iff.rfl⟩
 | succ m ih =>
  intro hm
  obtain ⟨h1, h2⟩ := ih (by omega)
  have hlt : m < zs.length := by omega
  have ed : ∀ j, (hj : j < zs.length) → zs.toArray[j]! = zs[j] := fun j hj => by simp [hj]
  have et : zs.take (m + 1) = zs.take m ++ [zs[m]] := by rw [List.take_add_one, List.getElem?_eq_getElem hlt]; rfl
  rw [Go.Lib.compactUpTo_succ, et]
  have hle : ∀ y ∈ zs.take m, y ≤ zs[m] := fun y hy => by
   obtain ⟨j, hj⟩ := List.getElem?_of_mem hy
   rw [List.getElem?_take] at hj
   split at hj
   ·rename_i hjm
    obtain ⟨a1, a2⟩ := List.getElem?_eq_some_iff.1 hj
    have := List.pairwise_iff_getElem.1 hs j m a1 hlt hjm
    rw [a2] at this; exact this
   ·cases hj
  by_cases hk : Go.Lib.keeps zs.toArray m = true
  ·rw [if_pos hk, ed m hlt]
   refine ⟨List.pairwise_append.2 ⟨h1, List.pairwise_singleton _ _, fun y hy z hz => ?_⟩, fun y => by rw [List.mem_append, List.mem_append, h2]⟩
   rw [List.mem_singleton] at hz; subst hz
   have hyt := (h2 y).1 hy
   have hya := hle y hyt
   have hne : y ≠ zs[m] := fun e => by
    unfold Go.Lib.keeps at hk
    rcases of_decide_eq_true hk with h0 | h0
    ·subst h0; rw [List.take_zero] at hyt; cases hyt
    ·have hm0 : 0 < m := by
      rcases Nat.eq_zero_or_pos m with e0 | e0
      ·subst e0; rw [List.take_zero] at hyt; cases hyt
      ·exact e0
     rw [ed m hlt, ed (m - 1) (by omega)] at h0
     have hp : zs[m - 1] ≤ zs[m] := List.pairwise_iff_getElem.1 hs (m - 1) m (by omega) hlt (by omega)
     obtain ⟨j, hj⟩ := List.getElem?_of_mem hyt
     rw [List.getElem?_take] at hj
     split at hj
     ·rename_i hjm
      obtain ⟨a1, a2⟩ := List.getElem?_eq_some_iff.1 hj
      have hq : zs[m] ≤ zs[m - 1] := by
       rw [← e, ← a2]
       by_cases ej : j = m - 1
       ·subst ej; exact List.le_refl _
       ·exact List.pairwise_iff_getElem.1 hs j (m - 1) a1 (by omega) (by omega)
      exact h0 (List.le_antisymm hq hp)
     ·cases hj
   exact Classical.byContradiction fun h => hne (List.le_antisymm hya (List.not_lt.1 h))
  ·rw [if_neg hk, List.append_nil]
   refine ⟨h1, fun y => ?_⟩
   rw [h2, List.mem_append, List.mem_singleton]
   refine ⟨Or.inl, fun h => h.elim id fun e => ?_⟩
   subst e
   unfold Go.Lib.keeps at hk
   have hk : ¬ (m = 0 ∨ zs.toArray[m]! ≠ zs.toArray[m - 1]!) := fun h => hk (decide_eq_true h)
   have hm0 : m ≠ 0 := fun e => hk (.inl e)
   have he : zs.toArray[m]! = zs.toArray[m - 1]! := Classical.not_not.1 fun e => hk (.inr e)
   rw [ed m hlt, ed (m - 1) (by omega)] at he
   rw [he]
   exact List.mem_of_getElem? (i := m - 1) (by rw [List.getElem?_take, if_pos (by omega), List.getElem?_eq_getElem])
def tb (x : List Nat) : List UInt8 := (strB x).data.toList
def nb (z : List UInt8) : List Nat := z.map UInt8.toNat
theorem nb_wf (z : List UInt8) : WfT (nb z) := fun c hc => by
 obtain ⟨u, -, rfl⟩ := List.mem_map.1 hc
 exact u.toNat_lt
theorem tb_nb (z : List UInt8) : tb (nb z) = z := by
 unfold tb nb strB
 rw [strOfNums_data, List.map_map, List.map_map]
 conv => rhs; rw [← List.map_id z]
 refine List.map_congr_left fun u _ => ?_
 simp
theorem tb_inj {x y : List Nat} (hx : WfT x) (hy : WfT y) (h : tb x = tb y) : x = y := by
 refine strB_inj hx hy ?_
 exact ByteArray.ext (Array.ext' h)
theorem nb_tb {x : List Nat} (hx : WfT x) : nb (tb x) = x := tb_inj (nb_wf _) hx (tb_nb _)
theorem tvs_tb (l : List (List Nat)) : (l.map tb).map encStr = tvs l := by
 have h := Go.Lib.map_encStr (l.map strB)
 simp only [List.map_map] at h
 unfold tvs
 rw [List.map_map]
 exact h
theorem tvs_nb (zs : List (List UInt8)) : tvs (zs.map nb) = zs.map encStr := by
 have e : (zs.map nb).map tb = zs := by
  rw [List.map_map]
  conv => rhs; rw [← List.map_id zs]
  exact List.map_congr_left fun z _ => tb_nb z
 rw [← tvs_tb, e]
def srtZ (zs : List (List UInt8)) : List (List UInt8) := zs.mergeSort fun x y => decide (x ≤ y)
theorem srtZ_len (zs : List (List UInt8)) : (srtZ zs).length = zs.length := List.length_mergeSort zs
def uqZ (l : List (List Nat)) : List (List Nat) := (Go.Lib.compact (srtZ (l.map tb))).map nb
theorem rise_of {zs : List (List UInt8)} (h : zs.Pairwise (· < ·)) : Rise (zs.map nb) := by
 unfold Rise
 rw [List.pairwise_map]
 refine h.imp fun {a b} hab => ?_
 rw [tls_dec, decide_eq_true_eq, Lib.toList_data, Lib.toList_data]
 have ea := tb_nb a
 have eb := tb_nb b
 unfold tb at ea eb
 rw [ea, eb]
 exact hab
theorem uqZ_eq (l : List (List Nat)) (hw : ∀ x ∈ l, WfT x) : uqZ l = uqL l := by
 obtain ⟨hr, hm⟩ := uqL_facts l hw
 have hs : (srtZ (l.map tb)).Pairwise (· ≤ ·) := by
  have h := List.pairwise_mergeSort (le := fun x y : List UInt8 => decide (x ≤ y)) (fun a b c h1 h2 => by
   rw [decide_eq_true_eq] at h1 h2 ⊢
   exact List.le_trans h1 h2) (fun a b => by
   rw [Bool.or_eq_true, decide_eq_true_eq, decide_eq_true_eq]
   exact List.le_total a b) (l.map tb)
  exact h.imp fun {a b} hab => of_decide_eq_true hab
 obtain ⟨h1, h2⟩ := com_facts _ hs _ (Nat.le_refl _)
 refine rise_ext (rise_of h1) hr fun y => ?_
 rw [hm]
 unfold uqZ
 rw [List.mem_map]
 constructor
 ·rintro ⟨z, hz, rfl⟩
  have h3 := (h2 z).1 hz
  rw [List.take_length] at h3
  have h4 := (List.mergeSort_perm (l.map tb) _).mem_iff.1 h3
  obtain ⟨x, hx, rfl⟩ := List.mem_map.1 h4
  rw [nb_tb (hw x hx)]; exact hx
 ·intro hy
  refine ⟨tb y, (h2 _).2 ?_, nb_tb (hw y hy)⟩
  rw [List.take_length]
  exact (List.mergeSort_perm (l.map tb) _).mem_iff.2 (List.mem_map.2 ⟨y, hy, rfl⟩)
theorem sort_txs (B g n c : Nat) (l : List (List Nat)) (hn5 : n ≤ 5000) (w : World) (H : Hid (OwnX w B (some ⟨g, 0, none⟩) n c l)) (hB : B ≤ w.heap.size) :
  Calls Tryz.prog 96 #[.slice (some ⟨g, 0, none⟩) n c] w fun e w' => e = .returned (.tuple #[]) ∧ OwnX w' B (some ⟨g, 0, none⟩) n c ((srtZ (l.map tb)).map nb) ∧ Below B w w' := by
 obtain ⟨hown, hwf⟩ := H.out
 rw [← tvs_tb] at hown
 obtain ⟨g', cap, he, hbg, hgl, hnc, hcm, hlen, hH⟩ := Go.Lib.holds_of_ownsRow hown (by simp)
 cases he
 have h : Calls Tryz.prog (sorT_ren.f 190) _ w _ := calls_of_every_depth fun D => AnyS.slices_Sort_string_alone sorT D g 0 c (l.map tb) w hH hgl (by omega)
 rw [hlen] at h
 change Calls Tryz.prog 96 _ _ _ at h
 refine h.mono fun e w' ⟨he, nn, os, hw⟩ => ⟨he, ⟨?_, fun x hx => ?_⟩, ?_⟩
 ·rcases hown.2 with ⟨e0, _⟩ | ⟨g', cap', cur, e0, hb, hrow, h1, h2, h3, h4⟩
  ·cases e0
  ·cases e0
   have h5 := ownsRow_sorted (n := nn) (os := os) (ts := srtZ (l.map tb)) (ss := l.map tb) (srtZ_len _) hb hrow (by rw [hlen]; exact h1) h2 h3
   rw [hlen] at h5
   rw [tvs_nb, hw]
   exact h5
 ·obtain ⟨z, -, rfl⟩ := List.mem_map.1 hx
  exact nb_wf z
 ·rw [hw]
  exact (Below.refl B w).grown (grownBy_sorted _) hB (fun k hk => by injection hk with hk; omega)
theorem compact_txs (B g n c : Nat) (zs : List (List UInt8)) (hn5 : n ≤ 5000) (w : World) (H : Hid (OwnX w B (some ⟨g, 0, none⟩) n c (zs.map nb))) :
  Calls Tryz.prog 97 #[.slice (some ⟨g, 0, none⟩) n c] w fun e w' => e = .returned (.slice (some ⟨g, 0, none⟩) (Go.Lib.compact zs).length c) ∧ OwnX w' B (some ⟨g, 0, none⟩) (Go.Lib.compact zs).length c ((Go.Lib.compact zs).map nb) ∧ Below B w w' := by
 obtain ⟨hown, hwf⟩ := H.out
 rw [tvs_nb] at hown
 obtain ⟨g', cap, he, hbg, hgl, hnc, hcm, hlen, hH⟩ := Go.Lib.holds_of_ownsRow hown (by simp)
 cases he
 have hle := Go.Lib.compact_length_le zs
 have h : Calls Tryz.prog (comT_ren.f 194) _ w _ := calls_of_every_depth fun D => AnyS.slices_Compact_string_in comT D g 0 c zs w hH (by omega) (by omega)
 rw [hlen] at h
 change Calls Tryz.prog 97 _ _ _ at h
 refine h.mono fun e w' ⟨he, q, hw⟩ => ⟨he, ⟨?_, fun x hx => ?_⟩, ?_⟩
 ·have hc := Go.Lib.ownsRow_putRow (q := q) (k := (Go.Lib.compact zs).length) (ys := Go.Lib.compact zs ++ List.replicate (n - (Go.Lib.compact zs).length) []) hown (by rw [List.length_append, List.length_replicate]; omega) (by omega)
  rw [List.take_left] at hc
  rw [tvs_nb, hw]
  exact hc
 ·obtain ⟨z, -, rfl⟩ := List.mem_map.1 hx
  exact nb_wf z
 ·rw [hw]
  exact Go.Lib.below_putRow (Below.refl B w) hbg
theorem clone_zeroX (a : Addr) (c : Nat) (w : World) :
  Calls Tryz.prog 95 #[.slice (some a) 0 c] w fun e w' => ∃ A1 c1, e = .returned (.slice A1 0 c1) ∧ OwnX w' w.heap.size A1 0 c1 [] ∧ Below w.heap.size w w' := by
 have q22 : ∀ w : World, (binOp .eql 37 (.slice (some a) 0 c) (.slice none 0 0)).run Tryz.prog w = .ok (.bool false) w := fun w => Lib.run_eql_slice_nil w _ _ (some a) 0 c 0 0 Tryz.underlying37
 have hO : OwnX (w.alloc (.cells #[] 9)) w.heap.size (some ⟨w.heap.size, 0, none⟩) 0 0 [] := ⟨⟨rfl, .inr ⟨w.heap.size, 0, #[], rfl, Nat.le_refl _, heap_alloc_new' w _, Nat.le_refl _, Nat.zero_le _, rfl, rfl⟩⟩, fun x hx => by cases hx⟩
 have HB0 := (Below.refl w.heap.size w).alloc (Nat.le_refl _) (.cells #[] 9)
 have hsz : w.heap.size ≤ (w.alloc (.cells #[] 9)).heap.size := HB0.size
 go_enter Tryz.func95, Tryz.ntmps95
 go_wp2
 go_ret
 exact ⟨_, _, rfl, hO, HB0⟩
theorem clone_anyX (A0 : Option Addr) (n c : Nat) (l : List (List Nat)) (hn : Hid (n = l.length)) (hb : n ≤ 5000) (w : World) (H : Hid (TxAt w A0 l)) :
  Calls Tryz.prog 95 #[.slice A0 n c] w fun e w' => ∃ A1 c1, e = .returned (.slice A1 n c1) ∧ OwnX w' w.heap.size A1 n c1 l ∧ Below w.heap.size w w' := by
 rcases A0 with _ | a
 ·have hl : l = [] := by
   rcases l with _ | ⟨x, r⟩
   ·rfl
   ·obtain ⟨-, g, off, e, -⟩ := H.out 0 x rfl; cases e
  subst hl
  have h0 : n = 0 := hn.out
  subst h0
  have h := AnyE.slices_Clone_nil cloT 0 c w
  change Calls Tryz.prog 95 _ _ _ at h
  exact h.mono fun e w' ⟨he, hw⟩ => ⟨none, 0, he, OwnX.nil _ _, by rw [hw]; exact Below.refl _ _⟩
 ·by_cases h0 : 0 < n
  ·obtain ⟨g, off, e, -, -⟩ := H.out.spot (by have := hn.out; omega)
   cases e
   exact (clone_txs g off n c l hn hb w H h0).mono fun e w' ⟨rb, cr, he, _, ho, hbl⟩ => ⟨_, _, he, ho, hbl⟩
  ·have h0 : n = 0 := by omega
   subst h0
   have hl : l = [] := List.eq_nil_of_length_eq_zero hn.out.symm
   subst hl
   exact clone_zeroX a c w
theorem sort_anyX (B : Nat) (A : Option Addr) (n c : Nat) (l : List (List Nat)) (hn5 : n ≤ 5000) (w : World) (H : Hid (OwnX w B A n c l)) (hB : B ≤ w.heap.size) :
  Calls Tryz.prog 96 #[.slice A n c] w fun e w' => e = .returned (.tuple #[]) ∧ OwnX w' B A n c ((srtZ (l.map tb)).map nb) ∧ Below B w w' := by
 rcases H.out.1.2 with ⟨e0, h0⟩ | ⟨g, cap', cur, e0, hb, hrow, h1, h2, h3, h4⟩
 ·cases e0
  have hl : l = [] := List.eq_nil_of_length_eq_zero H.out.len.symm
  subst hl
  have h : Calls Tryz.prog (sorT_ren.f 190) _ w _ := calls_of_every_depth fun D => AnyS.slices_Sort_string_none_alone sorT D none 0 w
  change Calls Tryz.prog 96 _ _ _ at h
  have e0 : srtZ [] = [] := List.eq_nil_of_length_eq_zero (srtZ_len [])
  rw [List.map_nil, e0]
  exact h.mono fun e w' ⟨he, hw⟩ => ⟨he, by rw [hw]; exact OwnX.nil _ _, by rw [hw]; exact Below.refl _ _⟩
 ·cases e0
  exact sort_txs B g n c l hn5 w H hB
theorem compact_anyX (B : Nat) (A : Option Addr) (n c : Nat) (zs : List (List UInt8)) (hn5 : n ≤ 5000) (w : World) (H : Hid (OwnX w B A n c (zs.map nb))) :
  Calls Tryz.prog 97 #[.slice A n c] w fun e w' => ∃ A1 m, e = .returned (.slice A1 m c) ∧ OwnX w' B A1 m c ((Go.Lib.compact zs).map nb) ∧ Below B w w' := by
 rcases H.out.1.2 with ⟨e0, h0⟩ | ⟨g, cap', cur, e0, hb, hrow, h1, h2, h3, h4⟩
 ·cases e0
  have hl : zs = [] := by
   have := H.out.len
   rw [List.length_map] at this
   exact List.eq_nil_of_length_eq_zero this.symm
  subst hl
  have h : Calls Tryz.prog (comT_ren.f 194) _ w _ := calls_of_every_depth fun D => AnyS.slices_Compact_string_empty_in comT D none 0 w
  change Calls Tryz.prog 97 _ _ _ at h
  exact h.mono fun e w' ⟨he, hw⟩ => ⟨none, 0, he, by rw [hw]; exact OwnX.nil _ _, by rw [hw]; exact Below.refl _ _⟩
 ·cases e0
  exact (compact_txs B g n c zs hn5 w H).mono fun e w' ⟨he, ho, hb⟩ => ⟨_, _, he, ho, hb⟩
def binT_ren : Go.Shelf.Ren := ⟨fun | 26 => 98 | 33 => 128 | 34 => 129 | 38 => 161 | n => n, fun | 0 => 0 | 3 => 3 | 4 => 4 | 9 => 9 | 24 => 37 | 40 => 92 | n => n, fun n => n⟩
theorem binT : Go.Proofs.Lays2.n26 Tryz.prog binT_ren := {
 mixed := by kernel_rfl
 f26 := Tryz.func98.trans (congrArg some (by kernel_rfl))
 f33 := Tryz.func128.trans (congrArg some (by kernel_rfl))
 f34 := Tryz.func129.trans (congrArg some (by kernel_rfl))
 f38 := Tryz.func161.trans (congrArg some (by kernel_rfl))
 t0 := Tryz.underlying0
 a0 := Tryz.isAgg0
 z0 := Tryz.sizeOf0
 v0 := Tryz.zeroValue0
 t3 := Tryz.underlying3
 a3 := Tryz.isAgg3
 z3 := Tryz.sizeOf3
 v3 := Tryz.zeroValue3
 t4 := Tryz.underlying4
 a4 := Tryz.isAgg4
 z4 := Tryz.sizeOf4
 v4 := Tryz.zeroValue4
 t9 := Tryz.underlying9
 a9 := Tryz.isAgg9
 z9 := Tryz.sizeOf9
 v9 := Tryz.zeroValue9
 t24 := Tryz.underlying37
 a24 := Tryz.isAgg37
 z24 := Tryz.sizeOf37
 v24 := Tryz.zeroValue37
 t40 := Tryz.underlying92
 a40 := Tryz.isAgg92
 z40 := Tryz.sizeOf92
 v40 := Tryz.zeroValue92 }
theorem bin_any (g off n c : Nat) (all : List (List Nat)) (hn : n = all.length) (hn5 : n ≤ 5000) (hr : Rise all) (x : List Nat) (hx : x ∈ all) (w : World) (H : TxAt w (some ⟨g, off, none⟩) all) :
  Calls Tryz.prog 98 #[.slice (some ⟨g, off, none⟩) n c, .string (strB x)] w fun e w' => e = .returned (.tuple #[.int .i64 (plc all x : Int), .bool true]) ∧ Below w.heap.size w w' := by
 have hat := plc_at hx
 obtain ⟨hk, hkx⟩ := List.getElem?_eq_some_iff.1 hat
 have hget : ∀ t, t < all.length → ∃ a, all[t]? = some a ∧ all.getD t x = a := fun t ht => ⟨_, List.getElem?_eq_getElem ht, by rw [List.getD_eq_getElem?_getD, List.getElem?_eq_getElem ht]; rfl⟩
 have hs := Go.Lib.bsGo_spec (fun t => Op.bytesLess (strB (all.getD t x)).toList (strB x).toList) (plc all x) (fun t ht => by
   obtain ⟨a, h1, h2⟩ := hget t (by omega)
   show tls (all.getD t x) x = true
   rw [h2]
   obtain ⟨a1, a2⟩ := List.getElem?_eq_some_iff.1 h1
   have := List.pairwise_iff_getElem.1 hr t (plc all x) a1 hk ht
   rw [a2, hkx] at this; exact this) (fun t ht => by
   show tls (all.getD t x) x = false
   rcases Nat.lt_or_ge t all.length with h3 | h3
   ·obtain ⟨a, h1, h2⟩ := hget t h3
    rw [h2]
    obtain ⟨a1, a2⟩ := List.getElem?_eq_some_iff.1 h1
    by_cases e : t = plc all x
    ·subst e; rw [← a2, hkx]; exact tls_irr x
    ·have := List.pairwise_iff_getElem.1 hr (plc all x) t hk a1 (by omega)
     rw [a2, hkx] at this; exact tls_asy this
   ·rw [List.getD_eq_getElem?_getD, List.getElem?_eq_none h3]; exact tls_irr x) n 0 n (by omega) (Nat.zero_le _) (by omega)
 have h := Any2.slices_BinarySearch_string binT g off n c (fun t => strB (all.getD t x)) (strB x) w (by omega) (fun j hj => by
  obtain ⟨a, h1, h2⟩ := hget j (by omega)
  obtain ⟨-, g', off', e, -, hc⟩ := H j a h1
  injection e with e; injection e with e1 e2; subst e1; subst e2
  rw [h2]; exact hc)
 rw [hs] at h
 change Calls Tryz.prog 98 _ _ _ at h
 refine h.mono fun e w' ⟨he, q, hw⟩ => ⟨?_, by rw [hw]; exact ⟨rfl, rfl, rfl, Nat.le_refl _, fun _ _ => rfl⟩⟩
 rw [he]
 have hd : decide (plc all x < n ∧ (fun t => strB (all.getD t x)) (plc all x) = strB x) = true := decide_eq_true ⟨by omega, by
  show strB (all.getD (plc all x) x) = strB x
  rw [List.getD_eq_getElem?_getD, hat]; rfl⟩
 rw [hd]
theorem flat_snoc (m : Nat) (all : List (List Nat)) (j : Nat) (s : List Nat) (h : all[j]? = some s) : ub m ++ ((all.take j).map txL).flatten ++ txL s = ub m ++ ((all.take (j + 1)).map txL).flatten := by
 rw [List.take_add_one, h]
 simp
theorem plc_wf (all : List (List Nat)) (hn : all.length ≤ 5000) (x : List Nat) : Wf64 (plc all x : Int) := by
 have := plc_le all x
 exact ⟨by omega, by omega⟩
theorem plc_snoc (all l : List (List Nat)) (k : Nat) (x : List Nat) (h : l[k]? = some x) : (l.map fun x => (plc all x : Int)).take (k + 1) = (l.map fun x => (plc all x : Int)).take k ++ [(plc all x : Int)] := by
 rw [List.take_add_one, List.getElem?_map, h]; rfl
set_option maxHeartbeats 8000000 in
theorem textsC_any (A0 : Option Addr) (n c : Nat) (l : List (List Nat)) (hn : Hid (n = l.length)) (hn5 : n ≤ 4096) (hl1 : Hid (∀ y ∈ l, y.length ≤ 1000000)) (W : World) (HL : Hid (TxAt W A0 l)) :
  Calls Tryz.prog 79 #[.slice A0 n c] W (Puts W.heap.size W (textsL l)) := by
 obtain ⟨iu, hiu, hz0, hz1, hz2⟩ := info_parts infoI64'
 have hzb : iu.bytes * n ≤ 281474976710656 := by rw [hz2]; omega
 have hnm : n ≤ maxLen := by unfold maxLen; omega
 have HWT : Hid (∀ y ∈ l, WfT y) := Lib.hid HL.out.wf
 have HEQ : Hid ((Go.Lib.compact (srtZ (l.map tb))).map nb = uqL l) := Lib.hid (uqZ_eq l HWT.out)
 obtain ⟨ur, hum⟩ := uqL_facts l HWT.out
 have HUR := Lib.hid ur; have HUM := Lib.hid hum
 have HUN : Hid ((uqL l).length ≤ 4096) := Lib.hid (Nat.le_trans (uqL_len l) (by have := hn.out; omega))
 have HUW : Hid (∀ y ∈ uqL l, WfT y ∧ y.length ≤ 1000000) := Lib.hid fun y hy => ⟨uqL_wf HWT.out y hy, hl1.out y ((HUM.out y).1 hy)⟩
 obtain ⟨all, hall⟩ : ∃ all, all = uqL l := ⟨_, rfl⟩
 have HXT : Hid (textsL l = ub all.length ++ (all.map txL).flatten ++ intsL (l.map fun x => (plc all x : Int))) := Lib.hid (by rw [hall]; rfl)
 rw [← hall] at HEQ HUR HUM HUN HUW
 clear hall ur hum
 go_enter Tryz.func79, Tryz.ntmps79
 go_wp2_with (first
  | (go_at_call 95; refine (clone_anyX A0 n c l hn (by omega) _ HL).mono ?_; rintro e w1 ⟨A1, c1, rfl, ho, hb⟩; have HO1 := Lib.hid ho; have HB1 := Lib.hid hb; clear ho hb)
  | (go_at_call 96; refine (sort_anyX W.heap.size A1 n c1 l (by omega) _ HO1 HB1.out.size).mono ?_; rintro e w2 ⟨rfl, ho, hb⟩; have HO2 := Lib.hid ho; have HB2 := Lib.hid (HB1.out.trans hb); clear ho hb)
  | (go_at_call 97; refine (compact_anyX W.heap.size A1 n c1 (srtZ (l.map tb)) (by omega) _ HO2).mono ?_; rintro e w3 ⟨Au, m, rfl, ho, hb⟩; rw [HEQ.out] at ho; have HOX := Lib.hid ho; have HB3 := Lib.hid (HB2.out.trans hb); have HML := Lib.hid ho.len; have hm4 : m ≤ 4096 := (by have := HML.out; have := HUN.out; omega); have hmw : IntKind.u64.wrap (m : Int) = (m : Int) := (by rw [IntKind.wrap_u64]; omega); clear ho hb)
  | (go_at_call 93; refine (putU_any w3.heap.size none 0 0 [] m (by omega) _ (Lib.hid (OwnS.nil _ _)) (by omega) (Nat.le_refl _)).mono ?_; rintro e w4 ⟨Ap, Np, cp, rfl, ho, hb, -⟩; rw [List.nil_append] at ho; have HP := Lib.hid ho; have HB4 := Lib.hid hb; clear ho hb))
 have HST3 : Hid (TX3 w3 all m (.slice Ap Np cp) (.int .i64 0) w4) := Lib.hid ⟨0, Np, Ap, cp, Nat.zero_le _, rfl, rfl, by have := HP.out.len; have := ub10 (show m < 18446744073709551616 by omega); omega, by show OwnS w4 w3.heap.size Ap Np cp (ub m ++ ([] : List (List Nat)).flatten); rw [List.flatten_nil, List.append_nil]; exact HP.out, HB4.out⟩
 clear HO1 HO2 HB1 HB2 HP HB4 HEQ
 go_loopw [4, 24] (fun up v wr => TX3 w3 all m up v wr) (fun _ v _ => m - (intOf v).toNat)
 case atStart => exact HST3.out
 case round =>
  obtain ⟨j, N, Ap, cp, hj, rfl, rfl, hN, hop, hbp⟩ := hrel
  have HOP := Lib.hid hop; have HBP := Lib.hid hbp
  clear hop hbp HST3
  by_cases hjm : j < m
  ·have hji : (j : Int) < (m : Int) := by omega
   obtain ⟨s, hs⟩ : ∃ s, all[j]? = some s := ⟨_, List.getElem?_eq_getElem (by have := HML.out; omega)⟩
   have HS := Lib.hid hs
   have HSW := Lib.hid (HUW.out s (List.mem_of_getElem? hs))
   obtain ⟨ga, oa, hA, hga, hca⟩ := HOX.out.isAt.spot (by have := HML.out; omega)
   subst hA
   have hcs := (HBP.out.cell (p := ⟨ga, oa + j, none⟩) hga).trans (hca j s hs)
   have HT := Lib.hid (putT_any w3.heap.size Ap N cp _ s HSW.out.1 HSW.out.2 wr HOP (by omega) HBP.out.size)
   have HTL : Hid ((txL s).length ≤ 1000010) := Lib.hid (by unfold txL; rw [List.length_append]; have := HSW.out.2; have := ub10 (show s.length < 18446744073709551616 by omega); omega)
   clear hs hga hca
   go_wp2_with (go_at_call 77; (with_reducible refine (HT.out).mono ?_); rintro e w5 ⟨A5, n5, c5, rfl, ho, hb, -⟩; have HO5 := Lib.hid ho; have HB5 := Lib.hid hb; clear ho hb)
   go_roundw
   case rel =>
    have h5 := HO5.out
    rw [flat_snoc m all j s HS.out] at h5
    refine ⟨j + 1, n5, A5, c5, by omega, by go_num, rfl, ?_, h5, HBP.out.trans HB5.out⟩
    have e1 := HO5.out.len
    have e2 := HOP.out.len
    rw [List.length_append] at e1
    have := HTL.out
    omega
   case measure => simp [intOf]; omega
  ·obtain rfl : j = m := by omega
   have HTK : Hid (all.take j = all) := Lib.hid (List.take_of_length_le (by have := HML.out; omega))
   rw [HTK.out] at HOP
   obtain ⟨wa, hwa⟩ : ∃ wa, wa = wr := ⟨_, rfl⟩
   have HWA : Hid (Below W.heap.size W wr) := Lib.hid (below_to HB3.out HBP.out)
   have HLEN : Hid ((l.map fun x => (plc all x : Int)).length = n) := Lib.hid (by rw [List.length_map]; exact hn.out.symm)
   go_wp2_with (refine wpList_make_full _ rfl (.tmp 33) (.tmp 33) 119 rfl wr.heap.size 2 iu (.int .i64 0) 1 Tryz.underlying119 hiu hz0 hz1 .i64 .i64 _ _ n rfl rfl rfl rfl hzb hnm (Nat.le_refl _) ?_; intro w6 own hgr; have HRI := Lib.hid (rowI_zeros own); have HB6 : Hid (Below wr.heap.size wr w6) := Lib.hid ((Below.refl _ wr).grown hgr (Nat.le_refl _) (by intro k hk; cases hk)); clear own hgr)
   rw [← hwa] at HRI HB6 HOP HBP HWA ⊢
   clear hwa
   obtain ⟨L, hL⟩ : ∃ L, L = wa.heap.size := ⟨_, rfl⟩
   rw [← hL] at HRI ⊢
   have HLE := Lib.hid hL
   clear hL
   go_loopw [37] (fun v wr => ∃ k : Nat, k ≤ n ∧ v = .int .i64 (k : Int) ∧ RowI wr L ((l.map fun x => (plc all x : Int)).take k ++ List.replicate (n - k) 0) ∧ Below L wa wr) (fun v _ => n - (intOf v).toNat)
   case atStart => exact ⟨0, Nat.zero_le _, rfl, by simpa using HRI.out, by rw [HLE.out]; exact HB6.out⟩
   case round =>
    obtain ⟨k, hk, rfl, hrow, hb⟩ := hrel
    have HROW := Lib.hid hrow; have HB : Hid (Below wa.heap.size wa wr) := Lib.hid (HLE.out ▸ hb)
    clear hrow hb HRI HB6
    have HBW : Hid (Below W.heap.size W wr) := Lib.hid (below_to HWA.out HB.out)
    by_cases hlt : k < n
    ·have hki : (k : Int) < (n : Int) := by omega
     obtain ⟨x, hx⟩ : ∃ x, l[k]? = some x := ⟨l[k]'(by have := hn.out; omega), List.getElem?_eq_getElem _⟩
     have hxm : x ∈ all := (HUM.out x).2 (List.mem_of_getElem? hx)
     obtain ⟨hxw, g, off, rfl, -, hcx⟩ := (HL.out.keep HBW.out) k x hx
     have HSN := Lib.hid (plc_snoc all l k x hx)
     have hox := HOX.out.keep (HBP.out.trans (HB.out.mono HBP.out.size))
     obtain ⟨ga, oa, hA, hga, hca⟩ := hox.isAt.spot (List.length_pos_of_mem hxm)
     subst hA
     have HBN := Lib.hid (bin_any ga oa j c1 all HML.out (by omega) HUR.out x hxm wr hox.isAt)
     have f2 := HROW.out.fr k
     obtain ⟨u2, c2⟩ := HROW.out.at k (by rw [List.length_append, List.length_replicate, List.length_take]; have := HLEN.out; omega)
     have HSET := Lib.hid (fill_set ((l.map fun x => (plc all x : Int)).take k) n k (by rw [List.length_take]; have := HLEN.out; omega) hlt (plc all x : Int))
     clear hx hxm hga hca hox
     go_wp2_with (go_at_call 98; refine (HBN.out).mono ?_; rintro e w7 ⟨rfl, hb⟩; have HB7 := Lib.hid hb; have HR7 : Hid (RowI w7 L _) := Lib.hid (HROW.out.keep (Kept.of_below (S := fun _ => False) hb) (fun h => h)); have f7 := HR7.out.fr k; obtain ⟨u7, c7⟩ := HR7.out.at k (by rw [List.length_append, List.length_replicate, List.length_take]; have := HLEN.out; omega); clear hb)
     go_roundw
     case rel => exact ⟨k + 1, by omega, by go_num, by rw [HSN.out, ← HSET.out]; exact HR7.out.set k (plc all x : Int), by rw [HLE.out]; exact (below_to HB.out HB7.out).setCell (Nat.le_refl _) _⟩
     case measure => simp [intOf]; omega
    ·obtain rfl : k = n := by omega
     have hki : ¬ (k : Int) < (k : Int) := by omega
     have hr := HROW.out
     rw [Nat.sub_self, List.replicate_zero, List.append_nil, List.take_of_length_le (by have := HLEN.out; omega)] at hr
     have HIW : Hid (∀ x ∈ (l.map fun x => (plc all x : Int)), Wf64 x) := Lib.hid (fun x hx => by obtain ⟨y, -, rfl⟩ := List.mem_map.1 hx; exact plc_wf all (by have := HML.out; omega) y)
     have HO := Lib.hid (hr.own (B := L) (Nat.le_refl _) HIW.out (by rw [HLEN.out]; exact hnm))
     rw [HLEN.out] at HO
     have HI := Lib.hid (ints_any (some ⟨L, 0, none⟩) k k (l.map fun x => (plc all x : Int)) (Lib.hid HLEN.out.symm) (Nat.le_refl _) (by omega) (by omega) wr (Lib.hid HO.out.isAt))
     have HIF : Hid ((intsL (l.map fun x => (plc all x : Int))).length ≤ 1000000) := Lib.hid (ints_few _ HIW.out (by rw [HLEN.out]; omega))
     have HPr := Lib.hid (HOP.out.keep HB.out)
     have hb3 : w3.heap.size ≤ wr.heap.size := Nat.le_trans HBP.out.size HB.out.size
     clear hr
     go_wp2_with (first
      | (go_at_call 78; (with_reducible refine (HI.out).mono ?_); rintro e w8 ⟨A8, n8, c8, rfl, h1, h2, h3⟩; have HO8 := Lib.hid h1; have HB8 := Lib.hid h2; have HP8 := Lib.hid (HPr.out.keep h2); have hn8 : n8 ≤ 1000000 := (by have := h1.len; have := HIF.out; omega); have hb8 : w3.heap.size ≤ w8.heap.size := (Nat.le_trans hb3 h3); clear h1 h2 h3)
      | (refine wpList_append_by rfl (.tmp 53) (.tmp 55) rfl w3.heap.size Ap N cp _ rfl HP8.out A8 n8 c8 (intsL (l.map fun x => (plc all x : Int))) rfl HO8.out.len HO8.out.byAt (by omega) hb8 ?_; intro A9 c9 w9 ho hg hr9; have HO9 := Lib.hid ho; have HB9 := Lib.hid (((HBP.out.trans (HB.out.mono HBP.out.size)).trans (HB8.out.mono hb3)).grown hg hb8 HP8.out.base); clear ho hg hr9))
     go_ret
     rw [HXT.out, ← HML.out]
     have hBW := below_to HB3.out HB9.out
     exact ⟨A9, _, c9, rfl, HO9.out.more HB3.out.size, hBW, hBW.size⟩
end Go.Proofs.YtjldamkmdkaiiaaGreatDoor
