/-
  Layer sorter: SorterRuns: the walk.
-/
import Derived.Test.YtjldamkmdkaiiaaGreatDoorO8K
import Derived.Deep.DeepCutAuto
import Derived.Test.YtjldamkmdkaiiaaGreatDoorTkK
set_option linter.unusedSimpArgs false
set_option linter.unusedVariables false
set_option maxRecDepth 8000
namespace Go.Proofs.YtjldamkmdkaiiaaGreatDoor
open Go.RowKit Go.WideShapes Col Go.Sort
theorem sameXY (x y : Ev) (h : sameB x y = true) (hx : x.val < 18446744073709551616) (hy : y.val < 18446744073709551616) (w : World) : Calls Tryz.prog 32 #[.agg x.cells.toArray, .agg y.cells.toArray] w fun e w' => e = .returned (.bool true) ∧ Below w.heap.size w w' := by
 have h1 := refEvSame_any x y hx hy w
 rw [h] at h1
 exact h1
set_option maxHeartbeats 4000000 in
theorem sameAllS_core (g1 o1 g2 o2 n c1 c2 : Nat) (l l2 : List Ev) (hn : Hid (n = l.length)) (hn2 : Hid (n = l2.length)) (h60 : n ≤ 1000) (hs : Hid (∀ (k : Nat) (x y : Ev), l[k]? = some x → l2[k]? = some y → sameB x y = true ∧ x.val < 18446744073709551616 ∧ y.val < 18446744073709551616)) (W : World) (H1 : Hid (EvAt W (some ⟨g1, o1, none⟩) l)) (H2 : Hid (EvAt W (some ⟨g2, o2, none⟩) l2)) :
  Calls Tryz.prog 14 #[.slice (some ⟨g1, o1, none⟩) n c1, .slice (some ⟨g2, o2, none⟩) n c2] W fun e w' => e = .returned (.bool true) ∧ Below W.heap.size W w' := by
 have hq : ((n : Int) != (n : Int)) = false := by simp
 go_enter Tryz.func14, Tryz.ntmps14
 go_wp2
 clear hq
 go_loopw [5] (fun v wr => ∃ k : Nat, k ≤ n ∧ v = .int .i64 k ∧ Below W.heap.size W wr) (fun v _ => n - (intOf v).toNat)
 case atStart => exact ⟨0, Nat.zero_le _, rfl, Below.refl _ _⟩
 case round =>
  obtain ⟨k, hk, rfl, hb⟩ := hrel
  have HB := Lib.hid hb
  clear hb
  by_cases hkn : k < n
  ·have hkl : k < l.length := by have := hn.out; omega
   obtain ⟨x, hx⟩ : ∃ x, l[k]? = some x := ⟨l[k], List.getElem?_eq_getElem hkl⟩
   obtain ⟨y, hy⟩ : ∃ y, l2[k]? = some y := ⟨_, List.getElem?_eq_getElem (by have := hn2.out; omega)⟩
   have HV := Lib.hid (hs.out k x y hx hy)
   obtain ⟨g, off, e, hg, hr⟩ := ev_range (H1.out.keep HB.out) k x hx
   injection e with e; injection e with b1 b2; subst b1; subst b2
   obtain ⟨g', off', e, hg', hr'⟩ := ev_range (H2.out.keep HB.out) k y hy
   injection e with e; injection e with b1 b2; subst b1; subst b2
   have HG1 := Lib.hid hg; have HG2 := Lib.hid hg'; have HX1 := Lib.hid hr; have HX2 := Lib.hid hr'
   clear hx hy hg hg' hr hr'
   have hz : (k : Int) < (n : Int) := by omega
   go_upto_region 6 with fail
   have hh0 : Below wr.heap.size wr wr.drew := (Below.refl _ _).drew
   refine wp_region_held_drew (S := fun w => Below wr.heap.size wr w) (by kernel_rfl) hh0 (fun hHeld => ?_)
   refine tkm 0 (.slice (some ⟨g1, o1, none⟩) n c1) rfl hHeld ?_
   try simp only [qz]
   refine tkm 1 (.int .i64 (k : Nat)) rfl hHeld ?_
   try simp only [qz]
   refine tks 2 (.pointer (some ⟨g1, o1 + k * 5, none⟩)) rfl hHeld ?_
   try simp only [qz]
   refine tk 3 (.agg x.cells.toArray) rfl (yieldsIf_load_mid rfl 51 (.tmp 19) rfl g1 (o1 + k * 5) rfl x.cells _ (fun w hw => range_keep HX1.out HG1.out hw) uEvent rfl (iEvent x)) hHeld ?_
   try simp only [qz]
   refine tkm 4 (.slice (some ⟨g2, o2, none⟩) n c2) rfl hHeld ?_
   try simp only [qz]
   refine tkm 5 (.int .i64 (k : Nat)) rfl hHeld ?_
   try simp only [qz]
   refine tks 6 (.pointer (some ⟨g2, o2 + k * 5, none⟩)) rfl hHeld ?_
   try simp only [qz]
   refine tk 7 (.agg y.cells.toArray) rfl (yieldsIf_load_mid rfl 51 (.tmp 23) rfl g2 (o2 + k * 5) rfl y.cells _ (fun w hw => range_keep HX2.out HG2.out hw) uEvent rfl (iEvent y)) hHeld ?_
   try simp only [qz]
   refine rd1 8 rfl (fun K hK => ?_)
   go_simp
   refine (sameXY x y HV.out.1 HV.out.2.1 HV.out.2.2 _).mono ?_
   rintro e w2 ⟨rfl, hb⟩
   replace hHeld := below_to2 hHeld hb
   clear hb
   refine hK.out _ _ hHeld (fun hHeld => ?_)
   clear hK K
   try simp only [qz]
   refine rd1 9 rfl (fun K hK => ?_)
   go_simp
   refine hK.out _ _ hHeld (fun hHeld => ?_)
   clear hK K
   try simp only [qz]
   refine wpAnyH_done (by kernel_rfl) ?_ _
   have HB2 := Lib.hid (below_to2 HB.out hHeld)
   go_wp2
   go_roundw
   case rel => exact ⟨k + 1, by omega, by go_num, HB2.out⟩
   case measure => simp [intOf]; omega
  ·have hz : ¬ ((k : Int) < (n : Int)) := by omega
   go_wp2
   go_ret
   exact ⟨rfl, HB.out⟩
theorem sameAllS_any (a b : Option Addr) (n c1 c2 : Nat) (l l2 : List Ev) (hn : Hid (n = l.length)) (hn2 : Hid (n = l2.length)) (h60 : n ≤ 1000) (hs : Hid (∀ (k : Nat) (x y : Ev), l[k]? = some x → l2[k]? = some y → sameB x y = true ∧ x.val < 18446744073709551616 ∧ y.val < 18446744073709551616)) (W : World) (H1 : Hid (EvAt W a l)) (H2 : Hid (EvAt W b l2)) :
  Calls Tryz.prog 14 #[.slice a n c1, .slice b n c2] W fun e w' => e = .returned (.bool true) ∧ Below W.heap.size W w' := by
 rcases l with _ | ⟨x, r⟩
 ·have : n = 0 := hn.out
  subst this
  exact sameAll_none a b c1 c2 W
 ·rcases l2 with _ | ⟨y, r2⟩
  ·have h1 := hn.out; have h2 := hn2.out; simp at h1 h2; omega
  ·obtain ⟨g1, o1, rfl, -, -⟩ := ev_range H1.out 0 x rfl
   obtain ⟨g2, o2, rfl, -, -⟩ := ev_range H2.out 0 y rfl
   exact sameAllS_core g1 o1 g2 o2 n c1 c2 (x :: r) (y :: r2) hn hn2 h60 hs W H1 H2
theorem same_canE (x : Ev) : sameB (canE x) x = true ∧ sameB (canE x) (canE x) = true := by
 unfold sameB keqB canE; simp [Fl.canon_canon]
theorem sameAllC_any (a b : Option Addr) (n c1 c2 : Nat) (l : List Ev) (hn : n = l.length) (h60 : n ≤ 1000) (hv : ∀ x ∈ l, x.val < 18446744073709551616) (W : World) (H1 : EvAt W a (l.map canE)) (H2 : EvAt W b l) :
  Calls Tryz.prog 14 #[.slice a n c1, .slice b n c2] W fun e w' => e = .returned (.bool true) ∧ Below W.heap.size W w' :=
 sameAllS_any a b n c1 c2 (l.map canE) l (Lib.hid (by rw [List.length_map]; exact hn)) (Lib.hid hn) h60 (Lib.hid fun k x y hx hy => by
  rw [List.getElem?_map, hy] at hx
  injection hx with hx; subst hx
  have h := hv y (List.mem_of_getElem? hy)
  exact ⟨(same_canE y).1, Fl.canon_lt _ h, h⟩) W (Lib.hid H1) (Lib.hid H2)
theorem sameAllD_any (a b : Option Addr) (n c1 c2 : Nat) (l : List Ev) (hn : n = l.length) (h60 : n ≤ 1000) (hv : ∀ x ∈ l, x.val < 18446744073709551616) (W : World) (H1 : EvAt W a (l.map canE)) (H2 : EvAt W b (l.map canE)) :
  Calls Tryz.prog 14 #[.slice a n c1, .slice b n c2] W fun e w' => e = .returned (.bool true) ∧ Below W.heap.size W w' :=
 sameAllS_any a b n c1 c2 (l.map canE) (l.map canE) (Lib.hid (by rw [List.length_map]; exact hn)) (Lib.hid (by rw [List.length_map]; exact hn)) h60 (Lib.hid fun k x y hx hy => by
  rw [hy] at hx; injection hx with hx; subst hx
  rw [List.getElem?_map] at hy
  obtain ⟨z, hz, rfl⟩ := Option.map_eq_some_iff.1 hy
  have h := Fl.canon_lt _ (hv z (List.mem_of_getElem? hz))
  exact ⟨(by have := (same_canE z).2; exact this), h, h⟩) W (Lib.hid H1) (Lib.hid H2)
theorem ch_fit {Z n : Nat} (hZ : 1 ≤ Z) (h : n + Z ≤ 320) : n ≤ 320 ∧ chN Z n * min Z n ≤ min 320 320 := by
 have h1 : chN Z n * min Z n ≤ chN Z n * Z := Nat.mul_le_mul_left _ (Nat.min_le_left _ _)
 have h2 : chN Z n * Z ≤ n + Z - 1 := Nat.div_mul_le_self _ _
 omega
def SortL (base : World) (g : Nat) (room : Int) (n N : Nat) (out : List Ev) (P : Nat → Prop) (o0 : Int) (w : World) (e : Ending) (w' : World) : Prop :=
 ∃ L c J o, e = .returned (.tuple #[.slice L n c, .int .i64 (N : Nat), .int .i64 (J : Nat), .int .i64 0]) ∧ P J ∧ OwnE w' w.heap.size L n c out ∧ KF w w' ∧ SA ⟨base, w'⟩ g room false 0 o [] w' ∧ (0 ≤ o ∧ o ≤ o0 + 2000000)
theorem sort_law {W : Bs} {g : Nat} {room ops : Int} (A : Option Addr) (n c : Nat) (l : List Ev) (parts : Int) (Zh Z : Nat) (hp : 1 ≤ parts ∧ parts ≤ 8) (hZh : 1 ≤ Zh ∧ n + Zh ≤ 320) (hZ : 2 ≤ Z ∧ Z ≤ 16) (hfin : ∀ x ∈ l, FineE x) (hall : ∀ x ∈ l, formB x parts = true)
  (w : World) (hs : SA W g room false 0 ops [] w) (h : 0 ≤ ops ∧ ops < 500000000) (HE : EvS w A n c l) (HT : TabsAt W.b) (hg : W.b.heap.size ≤ g) (hroom : 224000 ≤ room ∧ room ≤ 16777216) :
  Calls Tryz.prog 13 #[.pointer (some ⟨g, 0, none⟩), .slice A n c, .int .i64 parts, .agg #[.int .i64 (Zh : Int), .int .i64 (Z : Int)]] w (SortL W.b g room n (chN Zh n) ((isort ltM l).map canE) (PassZ Z n (chN Zh n)) ops w) := by
 have hn := HE.at.2.1
 refine (sortS_any (xs := []) 320 A n c l parts Zh Z hp ⟨hZh.1, by omega⟩ hZ hfin hall (by rw [← hn]; exact ch_fit hZh.1 hZh.2) (fun j k x y _ hx => by simp at hx) (fun x hx => nomatch hx) (Nat.zero_le _) w hs h HE HT hg hroom.2 (by show ((0 + 700 * 320 : Nat) : Int) ≤ room; omega)).mono ?_
 rintro e w' ⟨L, c2, J, rfl, hP, h1, h2, h3, h4, zs, o, h5, h6, h7⟩
 obtain rfl : zs = [] := List.eq_nil_of_length_eq_zero h6
 exact ⟨L, c2, J, o, rfl, hP, h3, h4, h5, h7⟩
theorem isort_val {l : List Ev} (h : ∀ x ∈ l, x.val < 18446744073709551616) : ∀ x ∈ isort ltM l, x.val < 18446744073709551616 := fun x hx => h x (isort_memM l x hx)
theorem sa_new {B w w' : World} {g : Nat} {room : Int} (h : S0 (Bs.of B) g room false 0 0 w) (hb : Below w.heap.size w w') : SA (Bs.of B) g room false 0 0 [] w' := SA.next (.inl ⟨rfl, h⟩) hb
theorem by_new (w : World) (l : List Nat) (hl : ∀ x ∈ l, x < 256) (cs : Array Value) (hcs : cs.toList = bys l) (fr : Nat × Nat) : Hid (ByAt (w.alloc (.cells cs 5 fr)) (some ⟨w.heap.size, 0, none⟩) l) :=
 Lib.hid (ByAt.of_row l hl (heap_alloc_new' w _) ⟨[], by rw [List.append_nil, hcs]⟩)
section
variable {W : Bs} {g : Nat} {room armed ops : Int} {off : Bool} {xs : List Fil} {w w' : World}
end
def rE (m k : Nat) : Ev := ⟨k, 0, ((k / 3 : Nat) : Int), strB [97 + k % m], 0⟩
def kfB (back : Bool) (n i : Nat) : Nat := if back then n - 1 - i else i
def rLs (back : Bool) (m n j : Nat) : List Ev := (List.range j).map fun i => rE m (kfB back n i)
theorem rLs_succ (back : Bool) (m n j : Nat) : rLs back m n (j + 1) = rLs back m n j ++ [rE m (kfB back n j)] := by unfold rLs; rw [List.range_succ, List.map_append]; rfl
theorem rLs_len (back : Bool) (m n j : Nat) : (rLs back m n j).length = j := by unfold rLs; rw [List.length_map, List.length_range]
theorem chN_mono {h n : Nat} (h1 : 1 ≤ h) : chN (h + 1) n ≤ chN h n := by
 rcases Nat.lt_or_ge (chN h n) (chN (h + 1) n) with h2 | h2
 ·have h3 := (chN_iff (Z := h + 1) (n := n) (by omega) (chN h n)).2 h2
  have h4 : ¬ h * chN h n < n := fun h5 => Nat.lt_irrefl _ ((chN_iff h1 (chN h n)).1 h5)
  rw [Nat.add_mul, Nat.one_mul] at h3
  omega
 ·exact h2
theorem rLs_fine (back : Bool) {m n j : Nat} (hn : n < 256) (hj : j ≤ n) (hm : 1 ≤ m ∧ m ≤ 9) : ∀ x ∈ rLs back m n j, FineE x ∧ formB x 1 = true ∧ x.val < 18446744073709551616 := fun x hx => by
 obtain ⟨i, hi, rfl⟩ := List.mem_map.1 hx
 have h := List.mem_range.1 hi
 have hk : kfB back n i < 256 := by unfold kfB; split <;> omega
 have hs : (strB [97 + kfB back n i % m]).size = 1 := strB_size _
 have h0 : (rE m (kfB back n i)).val = 0 := rfl
 refine ⟨⟨?_, ?_, ?_, ?_, by rw [h0]; decide⟩, ?_, by rw [h0]; decide⟩
 ·show kfB back n i < _; omega
 ·show (0 : Int) ≤ 0 ∧ (0 : Int) < 8; omega
 ·show _ ≤ ((kfB back n i / 3 : Nat) : Int) ∧ ((kfB back n i / 3 : Nat) : Int) ≤ _; omega
 ·show (strB [97 + kfB back n i % m]).size ≤ 32; omega
 ·unfold formB rE
  simp [hs]; omega
set_option maxHeartbeats 8000000 in
theorem sorterRuns_any (n : Nat) (hn : n < 256) (keys : Nat) (hks : keys < 256) (hold : Nat) (hho : hold < 256) (back : Bool) (W : World) (HG : Hid (TabsAt W)) :
  Calls Tryz.prog 8 #[.int .u8 (n : Int), .int .u8 (keys : Int), .int .u8 (hold : Int), .bool back] W fun e w' => e = .returned (.bool true) ∧ Below W.heap.size W w' := by
 have HAW := Lib.hid (awakeO_any W HG.out)
 obtain ⟨m, hm, hm1⟩ : ∃ m : Nat, (1 + (keys : Int) % 9) = (m : Int) ∧ 1 ≤ m ∧ m ≤ 9 := ⟨1 + keys % 9, by omega, by omega, by omega⟩
 go_enter Tryz.func8, Tryz.ntmps8
 go_upto_region 4 with (go_at_call 9; (with_reducible refine HAW.out.mono ?_); rintro e w1 ⟨rfl, h1⟩; have HB1 := Lib.hid h1; clear h1)
 go_wp2
 go_loopw [9, 10] (fun u v wr => ∃ (k : Nat) (A : Option Addr) (cap : Nat), k ≤ n ∧ v = .int .i64 (k : Int) ∧ u = .slice A k cap ∧ Hid (OwnE wr w1.heap.size A k cap (rLs back m n k)) ∧ Hid (k = 0 → A = none ∧ cap = 0) ∧ Hid (Below w1.heap.size w1 wr)) (fun _ v _ => n - (intOf v).toNat)
 case atStart => exact ⟨0, none, 0, by omega, rfl, rfl, Lib.hid (World.ownsRow_nil _ _ _ 5), Lib.hid fun _ => ⟨rfl, rfl⟩, Lib.hid (Below.refl _ _)⟩
 case round =>
  obtain ⟨k, A, cap, hk, rfl, rfl, HO, HNIL, HB⟩ := hrel
  by_cases hlt : k < n
  ·have hlti : (k : Int) < (n : Int) := by omega
   obtain ⟨q, hq⟩ : ∃ q, q = kfB back n k := ⟨_, rfl⟩
   have HQ := Lib.hid hq
   obtain ⟨r, hr⟩ : ∃ r, r = q % m := ⟨_, rfl⟩
   have hr8 : r ≤ 8 := by have := Nat.mod_lt q (show 0 < m by omega); omega
   have hqn : q < 256 := by rw [hq]; unfold kfB; split <;> omega
   go_upto_if 32 with fail
   go_cut [11] (fun s11 wx => s11 = .int .i64 (q : Int) ∧ wx = wr)
   case first =>
    rcases back with _ | _
    ·have hqk : q = k := HQ.out
     go_wp2_with fail
     go_meet
     case rel => exact ⟨by rw [HQ.out]; rfl, rfl⟩
    ·have hqk : (n : Int) - 1 - (k : Int) = (q : Int) := by rw [hq]; unfold kfB; simp; omega
     go_wp2_with fail
     go_meet
     case rel => first | exact ⟨rfl, rfl⟩ | exact ⟨rfl, trivial⟩ | trivial | (constructor <;> first | rfl | trivial | simp_all)
   case rest =>
    obtain ⟨rfl, hw⟩ := hcut
    have hw := hw.symm
    subst hw
    have hqm : (q : Int) % (m : Int) = (r : Int) := by rw [hr]; omega
    have hq3 : (q : Int).tdiv 3 = ((q / 3 : Nat) : Int) := by rw [Int.tdiv_eq_ediv_of_nonneg (by omega)]; omega
    have HRV := Lib.hid hr
    have hmz : ¬ (m : Int) = 0 := by omega
    have hby := (by_new wr [97 + r] (fun x hx => by rw [List.mem_singleton.1 hx]; omega) #[.int .u8 (97 + (r : Int))] (by simp [bys, bv]) (0, 0)).out
    have hcv := conv_by 1 1 hby rfl
    have hb2 := (Below.refl wr.heap.size wr).alloc (Nat.le_refl _) (.cells #[.int .u8 (97 + (r : Int))] 5)
    obtain ⟨wb, hwb⟩ : ∃ wb, wb = wr.alloc (.cells #[.int .u8 (97 + (r : Int))] 5) := ⟨_, rfl⟩
    have hbw : Below wr.heap.size wr wb := by rw [hwb]; exact hb2
    have hsz : wb.heap.size = wr.heap.size + 1 := by rw [hwb]; simp
    have hal := (Below.refl wb.heap.size wb).alloc (Nat.le_refl _) (.cells #[.int .u64 (q : Int), .int .i64 0, .int .i64 ((q : Int) / 3), .string (strB [97 + r]), .float .f64 0] 51)
    have hbb := hbw.trans (hal.mono hbw.size)
    have ho1 : OwnE (wb.alloc (.cells #[.int .u64 (q : Int), .int .i64 0, .int .i64 ((q : Int) / 3), .string (strB [97 + r]), .float .f64 0] 51)) w1.heap.size A k cap (rLs back m n k) := HO.out.keptE (S := fun _ => False) (Kept.of_below hbb) (fun k hk => hk.elim)
    have he1 : EvAt (wb.alloc (.cells #[.int .u64 (q : Int), .int .i64 0, .int .i64 ((q : Int) / 3), .string (strB [97 + r]), .float .f64 0] 51)) (some ⟨wr.heap.size + 1, 0, none⟩) [rE m q] := fun j v hv => ⟨wr.heap.size + 1, 0, rfl, by simp [hsz], by
     rw [← hsz, cell_of_row _ _ _ _ _ _ (heap_alloc_new' wb _), Nat.zero_add]
     simpa [evs, Ev.cells, rE, HRV.out] using hv⟩
    subst hwb
    have HBB := Lib.hid hbb; have HO1 := Lib.hid ho1; have HE1 := Lib.hid he1
    clear hq hr hby hb2 hbw hsz hal hbb ho1 he1
    go_wp2_with (refine wpList_append_ev rfl (.tmp 38) (.tmp 54) rfl w1.heap.size A k cap (rLs back m n k) rfl HO1.out (some ⟨wr.heap.size + 1, 0, none⟩) 1 1 [rE m q] rfl rfl HE1.out (fun h => by cases h) (k + 1) rfl (by omega) (Nat.le_trans HB.out.size HBB.out.size) ?_; intro A2 c2 w2 h1 h2 h3 h4 h5; have HO2 := Lib.hid h1; have HB2 := Lib.hid h5; clear h1 h2 h3 h4 h5)
    go_roundw
    case rel => exact ⟨k + 1, A2, c2, by omega, by go_num, rfl, Lib.hid (by rw [rLs_succ, ← HQ.out]; exact HO2.out), Lib.hid (fun h => by omega), Lib.hid ((HB.out.trans (HBB.out.mono HB.out.size)).trans HB2.out)⟩
    case measure => simp [intOf]; omega
  ·have hge : ¬ (k : Int) < (n : Int) := by omega
   have hkn : k = n := by omega
   subst hkn
   go_upto_region 12 with (go_at_call 11; (with_reducible refine (new_anyF 4194304 (by decide) wr).mono ?_); rintro e w3 ⟨g, rfl, h1, h2⟩; have HGG := Lib.hid h1; have HS3 := Lib.hid h2; clear h1 h2)
   obtain ⟨h, hh, hh1⟩ : ∃ h : Nat, (1 + (hold : Int) % 40) = (h : Int) ∧ 1 ≤ h ∧ h ≤ 40 := ⟨1 + hold % 40, by omega, by omega, by omega⟩
   have HF := Lib.hid (rLs_fine back hn (Nat.le_refl k) hm1)
   have HLN := Lib.hid (rLs_len back m k k)
   have HH := Lib.hid hh1
   have HE : Hid (EvS wr A k cap (rLs back m k k)) := Lib.hid (by
    rcases Nat.eq_zero_or_pos k with h0 | h0
    ·obtain ⟨rfl, rfl⟩ := HNIL.out h0
     exact .inl ⟨rfl, h0, rfl, List.eq_nil_of_length_eq_zero (by rw [HLN.out]; exact h0)⟩
    ·exact EvS.of_own HO.out h0)
   have hB0 : Below W.heap.size W wr := below_to HB1.out HB.out
   have HB0 := Lib.hid hB0
   have HTB : Hid (TabsAt wr) := Lib.hid ⟨HG.out.1.keep hB0, HG.out.2.keep hB0⟩
   have hs3 := sa_new HS3.out (Below.refl _ _)
   have HSA := Lib.hid (sort_law (W := Bs.of wr) (g := g) (room := 4194304) A k cap (rLs back m k k) 1 h 4 (by decide) ⟨hh1.1, by omega⟩ (by decide) (fun x hx => (HF.out x hx).1) (fun x hx => (HF.out x hx).2.1) w3 hs3 (by decide) (HE.out.kf hs3.kf) HTB.out HGG.out (by decide))
   rw [show ((4 : Nat) : Int) = 4 from rfl] at HSA
   have HK3 := Lib.hid hs3.kf
   have hkk : k ≤ 255 := by omega
   clear hB0 hs3 hh1
   go_upto_region 14 with (go_at_call 13; (with_reducible refine HSA.out.mono ?_); intro e w4 h9; unfold SortL at h9; obtain ⟨L4, c4, J4, o4, rfl, h1, h2, h3, h4, h5⟩ := h9; have HO4 := Lib.hid h2; have HK4 := Lib.hid h3; have HS4 := Lib.hid h4; have HP4 := Lib.hid h5; clear h1 h2 h3 h4 h5)
   have HSB := Lib.hid (sort_law (W := ⟨wr, w4⟩) (g := g) (room := 4194304) A k cap (rLs back m k k) 1 (h + 1) 4 (by decide) (by have := HH.out; omega) (by decide) (fun x hx => (HF.out x hx).1) (fun x hx => (HF.out x hx).2.1) w4 HS4.out ⟨HP4.out.1, by have := HP4.out.2; omega⟩ ((HE.out.kf HK3.out).kf HK4.out) HTB.out HGG.out (by decide))
   rw [show ((h + 1 : Nat) : Int) = (h : Int) + 1 by omega, show ((4 : Nat) : Int) = 4 from rfl] at HSB
   have hhb : h ≤ 40 := HH.out.2
   go_upto_region 15 with (go_at_call 13; (with_reducible refine HSB.out.mono ?_); intro e w5 h9; unfold SortL at h9; obtain ⟨L5, c5, J5, o5, rfl, h1, h2, h3, h4, h5⟩ := h9; have HO5 := Lib.hid h2; have HK5 := Lib.hid h3; have HS5 := Lib.hid h4; clear h1 h2 h3 h4 h5)
   have hle : ((chN (h + 1) k : Nat) : Int) ≤ ((chN h k : Nat) : Int) := Int.ofNat_le.2 (chN_mono HH.out.1)
   have HSM := Lib.hid (sameAllD_any L4 L5 k c4 c5 (isort ltM (rLs back m k k)) (by rw [isort_len]; exact HLN.out.symm) (by omega) (isort_val fun x hx => (HF.out x hx).2.2) w5 (ownE_kf HO4.out HK5.out).at' HO5.out.at')
   go_wp2_with (first
    | (go_at_call 14; (with_reducible refine HSM.out.mono ?_); rintro e w6 ⟨rfl, h1⟩; have HB6 := Lib.hid h1; have HRS := Lib.hid (rsort_any A k cap (rLs back m k k) (Lib.hid HLN.out.symm) (by omega) w6 (Lib.hid ((((HE.out.kf HK3.out).kf HK4.out).kf HK5.out).kf (KF.of_below h1)).at.1)); clear h1)
    | (go_at_call 15; (with_reducible refine HRS.out.mono ?_); rintro e w7 ⟨L7, c7, rfl, h1, h2⟩; have HB7 := Lib.hid (below_to HB6.out h2); have HSN := Lib.hid (sameAllC_any L4 L7 k c4 c7 (isort ltM (rLs back m k k)) (by rw [isort_len]; exact HLN.out.symm) (by omega) (isort_val fun x hx => (HF.out x hx).2.2) w7 ((ownE_kf HO4.out HK5.out).at'.keep (below_to HB6.out h2)) h1.at'); clear h1 h2)
    | (go_at_call 14; (with_reducible refine HSN.out.mono ?_); rintro e w8 ⟨rfl, h1⟩; have HB8 := Lib.hid (below_to HB7.out h1); clear h1))
   go_ret
   exact ⟨rfl, below_to HB0.out ((gb_new HS5.out.below HGG.out).trans (HB8.out.mono HS5.out.below.gb.size))⟩
end Go.Proofs.YtjldamkmdkaiiaaGreatDoor
