/-
  Layer column: slices.Sort and slices.Compact of texts that a call owns: those that there are, rising.
-/
import Derived.Shelf.Slices.In.SortNone
import Derived.Sort.OwnSorted
import Derived.Sort.EveryDepth
import Derived.Lib.OwnBridge
import Derived.Lib.RowBridge
import Derived.Test.YtenmjofbamihdaaDoorUjK
set_option linter.unusedSimpArgs false
set_option linter.unusedVariables false
set_option maxRecDepth 8000
namespace Go.Proofs.YtenmjofbamihdaaDoor
open Go.RowKit Go.Sort Go.WideShapes Col

/-- A text's bytes as the shelf has them, and back. -/
def tb (x : List Nat) : List UInt8 := (strB x).data.toList
def nb (z : List UInt8) : List Nat := z.map UInt8.toNat
theorem nb_wf (z : List UInt8) : WfT (nb z) := fun c hc => by
  obtain ⟨u, -, rfl⟩ := List.mem_map.1 hc
  exact u.toNat_lt
theorem tb_nb (z : List UInt8) : tb (nb z) = z := by
  unfold tb nb strB
  rw [strOfNums_data, List.map_map, List.map_map]
  conv => rhs; rw [← List.map_id z]
  refine List.map_congr_left fun u _ => ?_
  simp
theorem tb_inj {x y : List Nat} (hx : WfT x) (hy : WfT y) (h : tb x = tb y) : x = y := by
  refine strB_inj hx hy ?_
  exact ByteArray.ext (Array.ext' h)
theorem nb_tb {x : List Nat} (hx : WfT x) : nb (tb x) = x := tb_inj (nb_wf _) hx (tb_nb _)
theorem tvs_tb (l : List (List Nat)) : (l.map tb).map encStr = tvs l := by
  have h := Go.Lib.map_encStr (l.map strB)
  simp only [List.map_map] at h
  unfold tvs
  rw [List.map_map]
  exact h
theorem tvs_nb (zs : List (List UInt8)) : tvs (zs.map nb) = zs.map encStr := by
  have e : (zs.map nb).map tb = zs := by
    rw [List.map_map]
    conv => rhs; rw [← List.map_id zs]
    exact List.map_congr_left fun z _ => tb_nb z
  rw [← tvs_tb, e]
def srtZ (zs : List (List UInt8)) : List (List UInt8) := zs.mergeSort fun x y => decide (x ≤ y)
theorem srtZ_len (zs : List (List UInt8)) : (srtZ zs).length = zs.length := List.length_mergeSort zs
/-- Those that there are, rising. -/
def uqZ (l : List (List Nat)) : List (List Nat) := (Go.Lib.compact (srtZ (l.map tb))).map nb
theorem rise_of {zs : List (List UInt8)} (h : zs.Pairwise (· < ·)) : Rise (zs.map nb) := by
  unfold Rise
  rw [List.pairwise_map]
  refine h.imp fun {a b} hab => ?_
  rw [tls_dec, decide_eq_true_eq, Lib.toList_data, Lib.toList_data]
  have ea := tb_nb a
  have eb := tb_nb b
  unfold tb at ea eb
  rw [ea, eb]
  exact hab
theorem uqZ_eq (l : List (List Nat)) (hw : ∀ x ∈ l, WfT x) : uqZ l = uqL l := by
  obtain ⟨hr, hm⟩ := uqL_facts l hw
  have hs : (srtZ (l.map tb)).Pairwise (· ≤ ·) := by
    have h := List.pairwise_mergeSort (le := fun x y : List UInt8 => decide (x ≤ y)) (fun a b c h1 h2 => by
      rw [decide_eq_true_eq] at h1 h2 ⊢
      exact List.le_trans h1 h2) (fun a b => by
      rw [Bool.or_eq_true, decide_eq_true_eq, decide_eq_true_eq]
      exact List.le_total a b) (l.map tb)
    exact h.imp fun {a b} hab => of_decide_eq_true hab
  obtain ⟨h1, h2⟩ := com_facts _ hs _ (Nat.le_refl _)
  refine rise_ext (rise_of h1) hr fun y => ?_
  rw [hm]
  unfold uqZ
  rw [List.mem_map]
  constructor
  · rintro ⟨z, hz, rfl⟩
    have h3 := (h2 z).1 hz
    rw [List.take_length] at h3
    have h4 := (List.mergeSort_perm (l.map tb) _).mem_iff.1 h3
    obtain ⟨x, hx, rfl⟩ := List.mem_map.1 h4
    rw [nb_tb (hw x hx)]; exact hx
  · intro hy
    refine ⟨tb y, (h2 _).2 ?_, nb_tb (hw y hy)⟩
    rw [List.take_length]
    exact (List.mergeSort_perm (l.map tb) _).mem_iff.2 (List.mem_map.2 ⟨y, hy, rfl⟩)
theorem sort_txs (B g n c : Nat) (l : List (List Nat)) (hn5 : n ≤ 5000) (w : World) (H : Hid (OwnX w B (some ⟨g, 0, none⟩) n c l)) (hB : B ≤ w.heap.size) :
    Calls Tryd.prog 59 #[.slice (some ⟨g, 0, none⟩) n c] w fun e w' => e = .returned (.tuple #[]) ∧ OwnX w' B (some ⟨g, 0, none⟩) n c ((srtZ (l.map tb)).map nb) ∧ Below B w w' := by
  obtain ⟨hown, hwf⟩ := H.out
  rw [← tvs_tb] at hown
  obtain ⟨g', cap, he, hbg, hgl, hnc, hcm, hlen, hH⟩ := Go.Lib.holds_of_ownsRow hown (by simp)
  cases he
  have h : Calls Tryd.prog (sorT_ren.f 190) _ w _ := calls_of_every_depth fun D => AnyS.slices_Sort_string_alone sorT D g 0 c (l.map tb) w hH hgl (by omega)
  rw [hlen] at h
  change Calls Tryd.prog 59 _ _ _ at h
  refine h.mono fun e w' ⟨he, nn, os, hw⟩ => ⟨he, ⟨?_, fun x hx => ?_⟩, ?_⟩
  · rcases hown.2 with ⟨e0, _⟩ | ⟨g', cap', cur, e0, hb, hrow, h1, h2, h3, h4⟩
    · cases e0
    · cases e0
      have h5 := ownsRow_sorted (n := nn) (os := os) (ts := srtZ (l.map tb)) (ss := l.map tb) (srtZ_len _) hb hrow (by rw [hlen]; exact h1) h2 h3
      rw [hlen] at h5
      rw [tvs_nb, hw]
      exact h5
  · obtain ⟨z, -, rfl⟩ := List.mem_map.1 hx
    exact nb_wf z
  · rw [hw]
    exact (Below.refl B w).grown (grownBy_sorted _) hB (fun k hk => by injection hk with hk; omega)
theorem compact_txs (B g n c : Nat) (zs : List (List UInt8)) (hn5 : n ≤ 5000) (w : World) (H : Hid (OwnX w B (some ⟨g, 0, none⟩) n c (zs.map nb))) :
    Calls Tryd.prog 60 #[.slice (some ⟨g, 0, none⟩) n c] w fun e w' => e = .returned (.slice (some ⟨g, 0, none⟩) (Go.Lib.compact zs).length c) ∧ OwnX w' B (some ⟨g, 0, none⟩) (Go.Lib.compact zs).length c ((Go.Lib.compact zs).map nb) ∧ Below B w w' := by
  obtain ⟨hown, hwf⟩ := H.out
  rw [tvs_nb] at hown
  obtain ⟨g', cap, he, hbg, hgl, hnc, hcm, hlen, hH⟩ := Go.Lib.holds_of_ownsRow hown (by simp)
  cases he
  have hle := Go.Lib.compact_length_le zs
  have h : Calls Tryd.prog (comT_ren.f 194) _ w _ := calls_of_every_depth fun D => AnyS.slices_Compact_string_in comT D g 0 c zs w hH (by omega) (by omega)
  rw [hlen] at h
  change Calls Tryd.prog 60 _ _ _ at h
  refine h.mono fun e w' ⟨he, q, hw⟩ => ⟨he, ⟨?_, fun x hx => ?_⟩, ?_⟩
  · have hc := Go.Lib.ownsRow_putRow (q := q) (k := (Go.Lib.compact zs).length) (ys := Go.Lib.compact zs ++ List.replicate (n - (Go.Lib.compact zs).length) []) hown (by rw [List.length_append, List.length_replicate]; omega) (by omega)
    rw [List.take_left] at hc
    rw [tvs_nb, hw]
    exact hc
  · obtain ⟨z, -, rfl⟩ := List.mem_map.1 hx
    exact nb_wf z
  · rw [hw]
    exact Go.Lib.below_putRow (Below.refl B w) hbg
theorem clone_zeroX (a : Addr) (c : Nat) (w : World) :
    Calls Tryd.prog 58 #[.slice (some a) 0 c] w fun e w' => ∃ A1 c1, e = .returned (.slice A1 0 c1) ∧ OwnX w' w.heap.size A1 0 c1 [] ∧ Below w.heap.size w w' := by
  have q22 : ∀ w : World, (binOp .eql 75 (.slice (some a) 0 c) (.slice none 0 0)).run Tryd.prog w = .ok (.bool false) w := fun w => Lib.run_eql_slice_nil w _ _ (some a) 0 c 0 0 Tryd.underlying75
  have hO : OwnX (w.alloc (.cells #[] 9)) w.heap.size (some ⟨w.heap.size, 0, none⟩) 0 0 [] := ⟨⟨rfl, .inr ⟨w.heap.size, 0, #[], rfl, Nat.le_refl _, heap_alloc_new' w _, Nat.le_refl _, Nat.zero_le _, rfl, rfl⟩⟩, fun x hx => by cases hx⟩
  have HB0 := (Below.refl w.heap.size w).alloc (Nat.le_refl _) (.cells #[] 9)
  have hsz : w.heap.size ≤ (w.alloc (.cells #[] 9)).heap.size := HB0.size
  go_enter Tryd.func58, Tryd.ntmps58
  go_wp2
  go_ret
  exact ⟨_, _, rfl, hO, HB0⟩
/-- Of any texts, none of them too. -/
theorem clone_anyX (A0 : Option Addr) (n c : Nat) (l : List (List Nat)) (hn : Hid (n = l.length)) (hb : n ≤ 5000) (w : World) (H : Hid (TxAt w A0 l)) :
    Calls Tryd.prog 58 #[.slice A0 n c] w fun e w' => ∃ A1 c1, e = .returned (.slice A1 n c1) ∧ OwnX w' w.heap.size A1 n c1 l ∧ Below w.heap.size w w' := by
  rcases A0 with _ | a
  · have hl : l = [] := by
      rcases l with _ | ⟨x, r⟩
      · rfl
      · obtain ⟨-, g, off, e, -⟩ := H.out 0 x rfl; cases e
    subst hl
    have h0 : n = 0 := hn.out
    subst h0
    have h := AnyE.slices_Clone_nil cloT 0 c w
    change Calls Tryd.prog 58 _ _ _ at h
    exact h.mono fun e w' ⟨he, hw⟩ => ⟨none, 0, he, OwnX.nil _ _, by rw [hw]; exact Below.refl _ _⟩
  · by_cases h0 : 0 < n
    · obtain ⟨g, off, e, -, -⟩ := H.out.spot (by have := hn.out; omega)
      cases e
      exact (clone_txs g off n c l hn hb w H h0).mono fun e w' ⟨rb, cr, he, _, ho, hbl⟩ => ⟨_, _, he, ho, hbl⟩
    · have h0 : n = 0 := by omega
      subst h0
      have hl : l = [] := List.eq_nil_of_length_eq_zero hn.out.symm
      subst hl
      exact clone_zeroX a c w
theorem sort_anyX (B : Nat) (A : Option Addr) (n c : Nat) (l : List (List Nat)) (hn5 : n ≤ 5000) (w : World) (H : Hid (OwnX w B A n c l)) (hB : B ≤ w.heap.size) :
    Calls Tryd.prog 59 #[.slice A n c] w fun e w' => e = .returned (.tuple #[]) ∧ OwnX w' B A n c ((srtZ (l.map tb)).map nb) ∧ Below B w w' := by
  rcases H.out.1.2 with ⟨e0, h0⟩ | ⟨g, cap', cur, e0, hb, hrow, h1, h2, h3, h4⟩
  · cases e0
    have hl : l = [] := List.eq_nil_of_length_eq_zero H.out.len.symm
    subst hl
    have h : Calls Tryd.prog (sorT_ren.f 190) _ w _ := calls_of_every_depth fun D => AnyS.slices_Sort_string_none_alone sorT D none 0 w
    change Calls Tryd.prog 59 _ _ _ at h
    have e0 : srtZ [] = [] := List.eq_nil_of_length_eq_zero (srtZ_len [])
    rw [List.map_nil, e0]
    exact h.mono fun e w' ⟨he, hw⟩ => ⟨he, by rw [hw]; exact OwnX.nil _ _, by rw [hw]; exact Below.refl _ _⟩
  · cases e0
    exact sort_txs B g n c l hn5 w H hB
theorem compact_anyX (B : Nat) (A : Option Addr) (n c : Nat) (zs : List (List UInt8)) (hn5 : n ≤ 5000) (w : World) (H : Hid (OwnX w B A n c (zs.map nb))) :
    Calls Tryd.prog 60 #[.slice A n c] w fun e w' => ∃ A1 m, e = .returned (.slice A1 m c) ∧ OwnX w' B A1 m c ((Go.Lib.compact zs).map nb) ∧ Below B w w' := by
  rcases H.out.1.2 with ⟨e0, h0⟩ | ⟨g, cap', cur, e0, hb, hrow, h1, h2, h3, h4⟩
  · cases e0
    have hl : zs = [] := by
      have := H.out.len
      rw [List.length_map] at this
      exact List.eq_nil_of_length_eq_zero this.symm
    subst hl
    have h : Calls Tryd.prog (comT_ren.f 194) _ w _ := calls_of_every_depth fun D => AnyS.slices_Compact_string_empty_in comT D none 0 w
    change Calls Tryd.prog 60 _ _ _ at h
    exact h.mono fun e w' ⟨he, hw⟩ => ⟨none, 0, he, by rw [hw]; exact OwnX.nil _ _, by rw [hw]; exact Below.refl _ _⟩
  · cases e0
    exact (compact_txs B g n c zs hn5 w H).mono fun e w' ⟨he, ho, hb⟩ => ⟨_, _, he, ho, hb⟩
end Go.Proofs.YtenmjofbamihdaaDoor
