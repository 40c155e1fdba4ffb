/-
  Layer column: the program's readTexts, of any bytes.
-/
import Derived.Test.YtjldamkmdkaiiaaGreatDoorTfK
set_option linter.unusedSimpArgs false
set_option linter.unusedVariables false
set_option maxRecDepth 8000
namespace Go.Proofs.YtjldamkmdkaiiaaGreatDoor
open Go.RowKit Go.WideShapes Col
def bvs (l : List Bool) : List Value := l.map Value.bool
theorem bvs_length (l : List Bool) : (bvs l).length = l.length := List.length_map ..
def RowBo (w : World) (g : Nat) (l : List Bool) : Prop := w.heap[g]? = some (.cells (bvs l).toArray 4 (0, 0))
section
variable {w : World} {g : Nat} {l : List Bool}
theorem RowBo.fr (h : RowBo w g l) (i : Nat) : w.frozen? ⟨g, i, none⟩ = false := row_frozen h i
theorem RowBo.at (h : RowBo w g l) (i : Nat) (hi : i < l.length) : ∃ u, w.cell? ⟨g, i, none⟩ = some u := by
 rw [cell_of_row _ _ _ _ _ _ h, List.getElem?_toArray]
 exact ⟨_, List.getElem?_eq_getElem (by rw [bvs_length]; exact hi)⟩
theorem RowBo.set (h : RowBo w g l) (i : Nat) (x : Bool) : RowBo (w.setCell ⟨g, i, none⟩ (.bool x)) g (l.set i x) := by
 unfold RowBo at *
 rw [World.setCell]
 simp only [Array.getElem?_modify, if_pos, h, Option.map_some]
 have e : (bvs l).toArray.setIfInBounds i (.bool x) = (bvs (l.set i x)).toArray := by
  unfold bvs; rw [List.map_set]; simp
 simp [e]
theorem RowBo.keep {S : Nat → Prop} {w' : World} (h : RowBo w g l) (hk : Kept S w w') (hg : ¬ S g) : RowBo w' g l := hk.heap h hg
end
theorem rowBo_zeros {w : World} {B g q : Nat} (h : w.ownsRow B 4 1 (.slice (some ⟨g, 0, none⟩) q q) q (madeCells (Value.bool false).cells (q * 1)).toList) : RowBo w g (List.replicate q false) := by
 have e : bvs (List.replicate q false) = List.replicate q (.bool false) := by unfold bvs; rw [List.map_replicate]
 rw [Nat.mul_one, show (Value.bool false).cells = #[.bool false] from rfl, toList_madeCells_one, ← e] at h
 rcases h.2 with ⟨h1, h2⟩ | ⟨g', cap', cur, h1, hb, hrow, -, -, hs, ht⟩
 ·cases h1
 ·cases h1
  unfold RowBo
  rw [hrow]
  have hc : cur = (bvs (List.replicate q false)).toArray := by
   apply Array.ext'
   rw [← ht, Nat.mul_one, List.take_of_length_le (by rw [Array.length_toList, hs]; omega)]
  rw [hc]
theorem RowBo.cell {w : World} {g : Nat} {l : List Bool} (h : RowBo w g l) (i : Nat) (b : Bool) (hb : l[i]? = some b) : w.cell? ⟨g, i, none⟩ = some (.bool b) := by
 rw [cell_of_row _ _ _ _ _ _ h, List.getElem?_toArray]; unfold bvs; rw [List.getElem?_map, hb]; rfl
theorem infoBool : (Tryz.prog.info? 4).map (fun i => (i.zero, i.size, i.bytes)) = some (some (.bool false), 1, 1) := by kernel_rfl
def IdxP (bs : List Bool) (z : Int) : Prop := decide (0 ≤ z) = bs.contains false
set_option maxHeartbeats 1000000 in
theorem indexB_any (g n c : Nat) (bs : List Bool) (hn : Hid (n = bs.length)) (hn1 : n ≤ 1000000) (w : World) (H : Hid (RowBo w g bs)) :
  Calls Tryz.prog 196 #[.slice (some ⟨g, 0, none⟩) n c, .bool false] w fun e w' => (∃ z : Int, e = .returned (.int .i64 z) ∧ IdxP bs z) ∧ w = w' := by
 go_enter Tryz.func196, Tryz.ntmps196
 go_wp2
 go_loop [8] (fun v => ∃ k : Nat, k ≤ n ∧ v = .int .i64 (k : Int) ∧ ∀ j, j < k → bs[j]? = some true) (fun v => n - (intOf v).toNat)
 case atStart => exact ⟨0, Nat.zero_le _, rfl, fun j h => by omega⟩
 case round =>
  obtain ⟨k, hk, rfl, hall⟩ := hrel
  have HALL := Lib.hid hall
  clear hall
  by_cases hlt : k < n
  ·obtain ⟨b, hb⟩ : ∃ b, bs[k]? = some b := ⟨_, List.getElem?_eq_getElem (by have := hn.out; omega)⟩
   have HB := Lib.hid hb
   have hcell := H.out.cell k b hb
   clear hb
   cases b
   ·have HM : Hid (bs.contains false = true) := Lib.hid (by simpa using List.mem_of_getElem? HB.out)
    go_wp2
    go_ret
    exact ⟨⟨(k : Int), rfl, by unfold IdxP; rw [HM.out]; simp⟩, rfl⟩
   ·go_wp2
    go_round
    case rel => exact ⟨k + 1, by omega, by go_num, fun j hj => by
     by_cases e : j = k
     ·subst e; exact HB.out
     ·exact HALL.out j (by omega)⟩
    case measure => simp [intOf]; omega
  ·obtain rfl : k = n := by omega
   go_wp2
   go_ret
   refine ⟨⟨-1, rfl, ?_⟩, rfl⟩
   have : bs.contains false = false := by
    rw [List.contains_eq_any_beq, List.any_eq_false]
    intro x hx
    obtain ⟨j, hj⟩ := List.getElem?_of_mem hx
    have := HALL.out j (by rw [hn.out]; exact (List.getElem?_eq_some_iff.1 hj).1)
    rw [hj] at this; injection this with this; subst this; simp
   unfold IdxP; rw [this]; rfl
set_option maxHeartbeats 1000000 in
theorem containsB_any (g n c : Nat) (bs : List Bool) (hn : Hid (n = bs.length)) (hn1 : n ≤ 1000000) (w : World) (H : Hid (RowBo w g bs)) :
  Calls Tryz.prog 180 #[.slice (some ⟨g, 0, none⟩) n c, .bool false] w fun e w' => e = .returned (.bool (bs.contains false)) ∧ w = w' := by
 have HI := Lib.hid (indexB_any g n c bs hn hn1 w H)
 go_enter Tryz.func180, Tryz.ntmps180
 go_wp2_with (go_at_call 196; (with_reducible refine (HI.out).mono ?_); rintro e w2 ⟨⟨z, rfl, hz⟩, rfl⟩; have HZ := Lib.hid hz; clear hz)
 go_ret
 exact ⟨ret_eq (congrArg Value.bool HZ.out), rfl⟩
theorem OwnX.keptGX {w w' : World} {B n cap g : Nat} {A : Option Addr} {l : List (List Nat)} (h : OwnX w B A n cap l) (hk : Kept (Only g) w w') (hne : g < B) : OwnX w' B A n cap l :=
 ⟨h.1.kept (row := some g) ⟨hk.os, hk.tape, hk.output, hk.size, fun k hk1 hn => hk.block k hk1 fun e => hn (by rw [show k = g from e])⟩ (by
  have hb := h.base
  rcases A with _ | a
  ·simp [Value.ownBlock]
  ·have := hb a.block rfl
   simp [Value.ownBlock]; omega), h.2⟩
theorem OwnX.ltX {w : World} {B n cap : Nat} {A : Option Addr} {l : List (List Nat)} (h : OwnX w B A n cap l) (k : Nat) (hk : A.map (·.block) = some k) : k < w.heap.size := by
 rcases h.1.2 with ⟨h1, h2⟩ | ⟨g, cap', cur, h1, hb, hrow, _⟩
 ·cases h1; cases hk
 ·cases h1; simp at hk; subst hk; exact (Array.getElem?_eq_some_iff.1 hrow).1
theorem OwnX.keptS {S : Nat → Prop} {w w' : World} {B n cap : Nat} {A : Option Addr} {l : List (List Nat)} (h : OwnX w B A n cap l) (hk : Kept S w w') (hS : ∀ b, A.map (·.block) = some b → ¬ S b) : OwnX w' B A n cap l := by
 refine ⟨⟨h.1.1, ?_⟩, h.2⟩
 rcases h.1.2 with h1 | ⟨g, cap', cur, h1, hb, hrow, h2⟩
 ·exact .inl h1
 ·injection h1 with h3 h4 h5
  exact .inr ⟨g, cap', cur, by rw [h3, h5], hb, hk.heap hrow (hS g (by rw [h3]; rfl)), h2⟩
theorem OwnI.keptSI {S : Nat → Prop} {w w' : World} {B n cap : Nat} {A : Option Addr} {l : List Int} (h : OwnI w B A n cap l) (hk : Kept S w w') (hS : ∀ b, A.map (·.block) = some b → ¬ S b) : OwnI w' B A n cap l := by
 refine ⟨⟨h.1.1, ?_⟩, h.2⟩
 rcases h.1.2 with h1 | ⟨g, cap', cur, h1, hb, hrow, h2⟩
 ·exact .inl h1
 ·injection h1 with h3 h4 h5
  exact .inr ⟨g, cap', cur, by rw [h3, h5], hb, hk.heap hrow (hS g (by rw [h3]; rfl)), h2⟩
namespace Col
theorem rU_few {q r : List Nat} {ts : List (List Nat)} (h : rU q = some (ts, r)) : ts.length ≤ 4096 := by
 unfold rU at h
 rcases hu : uP 4096 q with _ | ⟨n, r1⟩
 ·rw [hu] at h; cases h
 ·rw [hu] at h
  simp only [Option.bind_some] at h
  rcases hr : runS (tP 32) n r1 with _ | ⟨l, r2⟩
  ·rw [hr] at h; cases h
  ·rw [hr] at h
   simp only [Option.bind_some] at h
   split at h
   ·injection h with h; injection h with h1 h2
    rw [← h1, runS_len hr]; exact (uP_some hu).2
   ·cases h
def usedL (n : Nat) (xs : List Int) : List Bool := (List.range n).map fun (i : Nat) => xs.contains (i : Int)
theorem usedL_len (n : Nat) (xs : List Int) : (usedL n xs).length = n := by unfold usedL; simp
theorem usedL_nil (n : Nat) : usedL n [] = List.replicate n false := by
 unfold usedL
 apply List.ext_getElem
 ·simp
 ·intro i h1 h2; simp
theorem usedL_snoc (n : Nat) (xs : List Int) (i : Nat) : usedL n (xs ++ [(i : Int)]) = (usedL n xs).set i true := by
 unfold usedL
 apply List.ext_getElem
 ·simp
 ·intro j h1 h2
  rw [List.getElem_set]
  simp only [List.getElem_map, List.getElem_range]
  by_cases e : i = j
  ·subst e; rw [if_pos rfl]; simp
  ·rw [if_neg e]
   rw [Bool.eq_iff_iff]
   simp only [List.contains_eq_mem, List.mem_append, List.mem_singleton, decide_eq_true_eq]
   constructor
   ·rintro (h | h)
    ·exact h
    ·exact (e (by omega)).elim
   ·exact .inl
def pickT (ts : List (List Nat)) (x : Int) : List Nat := ts.getD x.toNat []
def okT (ts : List (List Nat)) (xs : List Int) : Bool := (xs.all fun x => decide (0 ≤ x) && decide (x < (ts.length : Int))) && !(usedL ts.length xs).contains false
def rT (q : List Nat) : Option (List (List Nat) × List Nat) := (rU q).bind fun u => (rI u.2).bind fun p => if okT u.1 p.1 = true then some (p.1.map (pickT u.1), p.2) else none
theorem rT_no1 {q : List Nat} (h : rU q = none) : rT q = none := by unfold rT; rw [h]; rfl
theorem rT_no2 {q r : List Nat} {ts : List (List Nat)} (h : rU q = some (ts, r)) (h2 : rI r = none) : rT q = none := by unfold rT; rw [h]; simp [h2]
theorem rT_no3 {q r r2 : List Nat} {ts : List (List Nat)} {xs : List Int} (h : rU q = some (ts, r)) (h2 : rI r = some (xs, r2)) (h3 : okT ts xs = false) : rT q = none := by unfold rT; rw [h]; simp [h2, h3]
theorem rT_yes {q r r2 : List Nat} {ts : List (List Nat)} {xs : List Int} (h : rU q = some (ts, r)) (h2 : rI r = some (xs, r2)) (h3 : okT ts xs = true) : rT q = some (xs.map (pickT ts), r2) := by unfold rT; rw [h]; simp [h2, h3]
theorem okT_bad {ts : List (List Nat)} {xs : List Int} {k : Nat} {x : Int} (h : xs[k]? = some x) (hx : ¬ (0 ≤ x ∧ x < (ts.length : Int))) : okT ts xs = false := by
 unfold okT
 rw [Bool.and_eq_false_iff]; left
 rw [List.all_eq_false]
 refine ⟨x, List.mem_of_getElem? h, ?_⟩
 simpa using hx
theorem okT_end {ts : List (List Nat)} {xs : List Int} (h : ∀ (k : Nat) (x : Int), xs[k]? = some x → 0 ≤ x ∧ x < (ts.length : Int)) : okT ts xs = !(usedL ts.length xs).contains false := by
 unfold okT
 have : (xs.all fun x => decide (0 ≤ x) && decide (x < (ts.length : Int))) = true := by
  rw [List.all_eq_true]
  intro x hx
  obtain ⟨k, hk⟩ := List.getElem?_of_mem hx
  simpa using h k x hk
 rw [this, Bool.true_and]
theorem pickT_at {ts : List (List Nat)} {i : Nat} {t : List Nat} (h : ts[i]? = some t) : pickT ts (i : Int) = t := by unfold pickT; rw [List.getD_eq_getElem?_getD]; simp [h]
end Col
def TEnds (g : Nat) (o : Option (List (List Nat) × List Nat)) (w : World) (e : Ending) (w' : World) : Prop := match o with
 | some p => ∃ L n, e = .returned (.slice (some ⟨L, 0, none⟩) n n) ∧ n = p.1.length ∧ w.heap.size ≤ L ∧ RowT w' L p.1 ∧ RdM g p.2 w' ∧ Kept (Only g) w w' ∧ (∀ t ∈ p.1, WfT t)
 | none => e = .panicked [gu g] ∧ Gone w' g ∧ Kept (Only g) w w'
structure RTx (g : Nat) (w : World) (A1 : Option Addr) (n1 c1 : Nat) (ts : List (List Nat)) (A2 : Option Addr) (n2 c2 : Nat) (xs : List Int) (ub lb : Nat) (r : List Nat) (k : Nat) (wr : World) : Prop where
 own1 : OwnX wr w.heap.size A1 n1 c1 ts
 own2 : OwnI wr w.heap.size A2 n2 c2 xs
 off1 : ∀ b, A1.map (·.block) = some b → b < ub ∧ b < lb
 off2 : ∀ b, A2.map (·.block) = some b → b < ub ∧ b < lb
 hub : w.heap.size ≤ ub
 hlb : w.heap.size ≤ lb
 ne : ub ≠ lb
 used : RowBo wr ub (usedL n1 (xs.take k))
 row : RowT wr lb ((xs.take k).map (pickT ts) ++ List.replicate (n2 - k) [])
 rd : RdM g r wr
 kept : Kept (Only g) w wr
 ok : ∀ (j : Nat) (x : Int), j < k → xs[j]? = some x → 0 ≤ x ∧ x < (n1 : Int)
set_option maxHeartbeats 8000000 in
theorem readTexts_any (g : Nat) (q : List Nat) (w : World) (H : Hid (RdM g q w)) :
  Calls Tryz.prog 142 #[.pointer (some ⟨g, 0, none⟩)] w (TEnds g (rT q) w) := by
 obtain ⟨ib, hib, hb0, hb1, hb2⟩ := info_parts infoBool
 obtain ⟨is, his, hs0, hs1, hs2⟩ := info_parts infoStr'
 have HU := Lib.hid (readUnlike_any g q w H)
 rcases hu : rU q with _ | ⟨ts, r⟩
 ·have HN := Lib.hid (rT_no1 hu)
  rw [hu] at HU
  rw [HN.out]
  clear hu
  go_enter Tryz.func142, Tryz.ntmps142
  go_wp2_with (go_at_call 179; (with_reducible refine (HU.out).mono ?_); rintro e w2 ⟨rfl, h1, h2⟩)
  exact ⟨rfl, rfl, h1, h2⟩
 ·have HUU := Lib.hid hu
  rw [hu] at HU
  clear hu
  have HRI := Lib.hid fun w2 (h : Hid (RdM g r w2)) => readInts_any g r w2 h
  rcases hi : rI r with _ | ⟨xs, r2⟩
  ·have HN := Lib.hid (rT_no2 HUU.out hi)
   rw [hi] at HRI
   rw [HN.out]
   clear hi
   go_enter Tryz.func142, Tryz.ntmps142
   go_wp2_with (first
    | (go_at_call 179; (with_reducible refine (HU.out).mono ?_); rintro e w2 ⟨⟨A1, n1, c1, rfl, ho⟩, h1, h2⟩; have HRD := Lib.hid h1; have HK := Lib.hid h2; clear ho h1 h2)
    | (go_at_call 140; refine (HRI.out _ HRD).mono ?_; rintro e w3 ⟨rfl, h1, h2⟩))
   exact ⟨rfl, rfl, h1, HK.out.trans h2⟩
  ·have HII := Lib.hid hi
   have hxl := rI_len hi
   rw [hi] at HRI
   clear hi
   have HGB := Lib.hid H.out.1.glt
   go_enter Tryz.func142, Tryz.ntmps142
   go_upto_region 3 with (first
    | (go_at_call 179; (with_reducible refine (HU.out).mono ?_); rintro e w2 ⟨⟨A1, n1, c1, rfl, ho⟩, h1, h2⟩; have HO1 := Lib.hid ho; have HRD := Lib.hid h1; have HK := Lib.hid h2; clear ho h1 h2)
    | (go_at_call 140; refine (HRI.out _ HRD).mono ?_; rintro e w3 ⟨⟨A2, n2, c2, rfl, ho⟩, h1, h2⟩; have HO2 := Lib.hid ho; have HRD3 := Lib.hid h1; have HK3 := Lib.hid h2; clear ho h1 h2))
   have hn1 : n1 ≤ 4096 := by
    have h1 : n1 = ts.length := HO1.out.len
    have h2 := rU_few HUU.out
    omega
   have hn2 : n2 ≤ 4096 := by have h1 : n2 = xs.length := HO2.out.len; omega
   have hzb1 : ib.bytes * n1 ≤ 281474976710656 := by rw [hb2]; omega
   have hzb2 : is.bytes * n2 ≤ 281474976710656 := by rw [hs2]; omega
   have hnm1 : n1 ≤ maxLen := by unfold maxLen; omega
   have hnm2 : n2 ≤ maxLen := by unfold maxLen; omega
   have HN1 : Hid (n1 = ts.length) := Lib.hid HO1.out.len
   have HN2 : Hid (n2 = xs.length) := Lib.hid HO2.out.len
   have HO13 : Hid (OwnX w3 w.heap.size A1 n1 c1 ts) := Lib.hid (HO1.out.keptGX HK3.out HGB.out)
   have HO23 : Hid (OwnI w3 w.heap.size A2 n2 c2 xs) := Lib.hid (HO2.out.more HK.out.size)
   have HKA := Lib.hid (HK.out.trans HK3.out)
   obtain ⟨ub, hub⟩ : ∃ ub, ub = w3.heap.size := ⟨_, rfl⟩
   go_upto_region 4 with (refine wpList_make_full _ rfl (.tmp 14) (.tmp 14) 215 rfl w3.heap.size 4 ib (.bool false) 1 Tryz.underlying215 hib hb0 hb1 .i64 .i64 _ _ n1 rfl rfl rfl rfl hzb1 hnm1 (Nat.le_refl _) ?_; intro w4 own hgr; have HRB := Lib.hid (rowBo_zeros own); have HB4 : Hid (Below w3.heap.size w3 w4) := Lib.hid ((Below.refl _ w3).grown hgr (Nat.le_refl _) (by intro k hk; cases hk)); clear own hgr)
   obtain ⟨lb, hlb⟩ : ∃ lb, lb = w4.heap.size := ⟨_, rfl⟩
   go_upto_region 5 with (refine wpList_make_full _ rfl (.tmp 17) (.tmp 17) 37 rfl w4.heap.size 9 is (.string { data := #[] }) 1 Tryz.underlying37 his hs0 hs1 .i64 .i64 _ _ n2 rfl rfl rfl rfl hzb2 hnm2 (Nat.le_refl _) ?_; intro w5 own hgr; have HRS := Lib.hid (rowT_zeros own); have HB5 : Hid (Below w4.heap.size w4 w5) := Lib.hid ((Below.refl _ w4).grown hgr (Nat.le_refl _) (by intro k hk; cases hk)); clear own hgr)
   rw [← hub, ← hlb]
   have HST : Hid (RTx g w A1 n1 c1 ts A2 n2 c2 xs ub lb r2 0 w5) := Lib.hid (by
    have h4 : ub < w4.heap.size := by rw [hub]; exact (Array.getElem?_eq_some_iff.1 HRB.out).1
    refine ⟨(HO13.out.keep HB4.out).keep HB5.out, (HO23.out.keep HB4.out).keep HB5.out, fun b hb => ?_, fun b hb => ?_, ?_, ?_, by omega, ?_, ?_, ?_, (HKA.out.trans (Kept.of_below HB4.out)).trans (Kept.of_below HB5.out), fun j x h => by omega⟩
    ·have h5 := HO13.out.ltX b hb; omega
    ·have h5 := HO23.out.ltI b hb; omega
    ·rw [hub]; exact HKA.out.size
    ·have := HKA.out.size; omega
    ·rw [List.take_zero, usedL_nil, hub]; exact HRB.out.keep (Kept.of_below (S := fun _ => False) HB5.out) fun e => e
    ·rw [List.take_zero, hlb]; simpa using HRS.out
    ·exact ⟨(HRD3.out.1.high (S := fun _ => False) (Kept.of_below HB4.out) fun k hk => hk.elim).high (S := fun _ => False) (Kept.of_below HB5.out) fun k hk => hk.elim, HRD3.out.2⟩)
   clear HU HRI HO1 HO2 HRD HK HRD3 HK3 HO13 HO23 HKA HRB HRS HB4 HB5 hub hlb hzb1 hzb2 hnm1 hnm2
   go_wp2
   go_loopw [21] (fun v wr => ∃ k : Nat, k ≤ n2 ∧ v = .int .i64 (k : Int) ∧ RTx g w A1 n1 c1 ts A2 n2 c2 xs ub lb r2 k wr) (fun v _ => n2 - (intOf v).toNat)
   case atStart => exact ⟨0, Nat.zero_le _, rfl, HST.out⟩
   case round =>
    obtain ⟨k, hk, rfl, hrx⟩ := hrel
    have HX := Lib.hid hrx
    clear hrx HST
    obtain ⟨A9, C9, hRA⟩ := HX.out.rd.1
    have HRA := Lib.hid hRA
    clear hRA
    by_cases hlt : k < n2
    ·obtain ⟨x, hx⟩ : ∃ x, xs[k]? = some x := ⟨_, List.getElem?_eq_getElem (by have := HN2.out; omega)⟩
     obtain ⟨g3, o3, rfl, hg3, hcx⟩ := HX.out.own2.isAt.spot (by have := HN2.out; omega)
     have hc3 := hcx k x hx
     have HXK := Lib.hid hx
     clear hx hcx
     by_cases hok : 0 ≤ x ∧ x < (n1 : Int)
     ·obtain ⟨i, hi⟩ : ∃ i : Nat, x = (i : Int) := ⟨x.toNat, by omega⟩
      subst hi
      obtain ⟨hx0, hxn⟩ := hok
      have hin : i < n1 := by omega
      obtain ⟨t, ht⟩ : ∃ t, ts[i]? = some t := ⟨_, List.getElem?_eq_getElem (by have := HN1.out; omega)⟩
      obtain ⟨g1, o1, rfl, hg1, hct⟩ := HX.out.own1.isAt.spot (by have := HN1.out; omega)
      have hc1 := hct i t ht
      have hoff := HX.out.off1 g1 rfl
      have hne1 : ¬ ub = g1 := by omega
      have hne1' : ¬ g1 = ub := by omega
      have hne2 : ¬ ub = lb := HX.out.ne
      have hne2' : ¬ lb = ub := fun e => HX.out.ne e.symm
      have HPT := Lib.hid (pickT_at ht)
      have fu := HX.out.used.fr i
      obtain ⟨u1, cu⟩ := HX.out.used.at i (by rw [usedL_len]; exact hin)
      have fl := HX.out.row.fr k
      obtain ⟨u2, cl⟩ := HX.out.row.at k (by rw [List.length_append, List.length_map, List.length_replicate, List.length_take]; have := HN2.out; omega)
      have HSET := Lib.hid (fill_setT ((xs.take k).map (pickT ts)) n2 k (by rw [List.length_map, List.length_take]; have := HN2.out; omega) hlt t)
      have HTK : Hid (xs.take (k + 1) = xs.take k ++ [(i : Int)]) := Lib.hid (by rw [List.take_add_one, HXK.out]; rfl)
      clear ht hct hoff
      go_wp2_with (go_at_call 121; (with_reducible refine (check_true _ _).mono ?_); rintro e w6 ⟨rfl, rfl⟩)
      go_roundw
      case rel =>
       refine ⟨k + 1, by omega, by go_num, ?_⟩
       have hk1 : Kept (fun k => k = ub ∨ k = lb) wr ((wr.setCell ⟨ub, i, none⟩ (.bool true)).setCell ⟨lb, k, none⟩ (.string (strB t))) := ((Kept.refl _ _).setCell _ _ (.inl (.inl rfl))).setCell _ _ (.inl (.inr rfl))
       have X := HX.out
       have hgl := HGB.out
       have hu1 := X.hub
       have hl1 := X.hlb
       refine ⟨X.own1.keptS hk1 (fun b hb => by have := X.off1 b hb; omega), X.own2.keptSI hk1 (fun b hb => by have := X.off2 b hb; omega), X.off1, X.off2, X.hub, X.hlb, X.ne, ?_, ?_, ⟨X.rd.1.high hk1 fun k hk => by omega, X.rd.2⟩, X.kept.trans' hk1 fun i hi => by right; omega, ?_⟩
       ·rw [HTK.out, usedL_snoc]
        exact (X.used.set i true).keep (S := fun k => k = lb) ((Kept.refl _ _).setCell _ _ (.inl rfl)) hne2
       ·rw [HTK.out, List.map_append, List.map_cons, List.map_nil, HPT.out, ← HSET.out]
        exact (X.row.keep (S := fun k => k = ub) ((Kept.refl _ _).setCell _ _ (.inl rfl)) hne2').set k t
       ·intro j y hj hy
        by_cases e : j = k
        ·subst e; rw [HXK.out] at hy; injection hy with hy; subst hy; exact ⟨hx0, hxn⟩
        ·exact X.ok j y (by omega) hy
      case measure => simp [intOf]; omega
     ·have HN := Lib.hid (rT_no3 HUU.out HII.out (okT_bad HXK.out (by rw [← HN1.out]; exact hok)))
      rw [HN.out]
      by_cases hx0 : 0 ≤ x
      ·have hxn : ¬ x < (n1 : Int) := fun h => hok ⟨hx0, h⟩
       clear hok
       go_wp2_with (go_at_call 121; (with_reducible refine (check_false g C9 A9 r2 _ HRA).mono ?_); rintro e w6 ⟨rfl, h1, h2⟩)
       exact ⟨rfl, rfl, h1, HX.out.kept.trans h2⟩
      ·clear hok
       go_wp2_with (go_at_call 121; (with_reducible refine (check_false g C9 A9 r2 _ HRA).mono ?_); rintro e w6 ⟨rfl, h1, h2⟩)
       exact ⟨rfl, rfl, h1, HX.out.kept.trans h2⟩
    ·obtain rfl : k = n2 := by omega
     have hall : xs.take k = xs := List.take_of_length_le (by have := HN2.out; omega)
     have HRU : Hid (RowBo wr ub (usedL n1 xs)) := Lib.hid (by have := HX.out.used; rwa [hall] at this)
     have HRW : Hid (RowT wr lb (xs.map (pickT ts))) := Lib.hid (by have := HX.out.row; rw [hall, Nat.sub_self, List.replicate_zero, List.append_nil] at this; exact this)
     have HOK : Hid (okT ts xs = !(usedL n1 xs).contains false) := Lib.hid (by
      rw [HN1.out]
      exact okT_end fun j x hj => by
       have h9 := HX.out.ok j x (by have := (List.getElem?_eq_some_iff.1 hj).1; have := HN2.out; omega) hj
       rw [HN1.out] at h9; exact h9)
     have HC := Lib.hid (containsB_any ub n1 n1 (usedL n1 xs) (Lib.hid (usedL_len _ _).symm) (by omega) wr HRU)
     rcases hb : (usedL n1 xs).contains false with _ | _
     ·rw [hb] at HOK HC
      have HN := Lib.hid (rT_yes HUU.out HII.out HOK.out)
      rw [HN.out]
      clear hb hall
      go_wp2_with (first
       | (go_at_call 180; (with_reducible refine (HC.out).mono ?_); rintro e w6 ⟨rfl, rfl⟩)
       | (go_at_call 121; (with_reducible refine (check_true _ _).mono ?_); rintro e w7 ⟨rfl, rfl⟩))
      go_ret
      show TEnds g (rT q) w _ _
      rw [HN.out]
      refine ⟨lb, k, rfl, by rw [List.length_map]; exact HN2.out, HX.out.hlb, HRW.out, HX.out.rd, HX.out.kept, fun t ht => ?_⟩
      obtain ⟨x, hx, rfl⟩ := List.mem_map.1 ht
      obtain ⟨j, hj⟩ := List.getElem?_of_mem hx
      have h9 := HX.out.ok j x (by have := (List.getElem?_eq_some_iff.1 hj).1; have := HN2.out; omega) hj
      obtain ⟨i, rfl⟩ : ∃ i : Nat, x = (i : Int) := ⟨x.toNat, by omega⟩
      obtain ⟨t, ht⟩ : ∃ t, ts[i]? = some t := ⟨_, List.getElem?_eq_getElem (by have := HN1.out; omega)⟩
      rw [pickT_at ht]
      exact HX.out.own1.2 t (List.mem_of_getElem? ht)
     ·rw [hb] at HOK HC
      have HN := Lib.hid (rT_no3 HUU.out HII.out HOK.out)
      rw [HN.out]
      clear hb hall
      go_wp2_with (first
       | (go_at_call 180; (with_reducible refine (HC.out).mono ?_); rintro e w6 ⟨rfl, rfl⟩)
       | (go_at_call 121; (with_reducible refine (check_false g C9 A9 r2 _ HRA).mono ?_); rintro e w7 ⟨rfl, h1, h2⟩))
      refine ⟨rfl, ?_⟩
      show TEnds g (rT q) w _ _
      rw [HN.out]
      exact ⟨rfl, h1, HX.out.kept.trans h2⟩
end Go.Proofs.YtjldamkmdkaiiaaGreatDoor
