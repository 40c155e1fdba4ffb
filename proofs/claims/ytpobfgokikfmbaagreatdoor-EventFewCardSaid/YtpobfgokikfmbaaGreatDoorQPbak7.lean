/-
  Layer column: the program's readTexts, of any bytes.
-/
import Derived.Test.YtpobfgokikfmbaaGreatDoorQPbak6
import Derived.Lib.ConvBytes
import Derived.Test.YtpobfgokikfmbaaGreatDoorQPbak5
set_option linter.unusedSimpArgs false
set_option linter.unusedVariables false
set_option maxRecDepth 8000
namespace Go.Proofs.YtpobfgokikfmbaaGreatDoor
open Go.RowKit Go.WideShapes Col
def bvs (l : List Bool) : List Value := l.map Value.bool
theorem bvs_length (l : List Bool) : (bvs l).length = l.length := List.length_map ..
/-- A row of whole numbers that is all of a slice. -/
def RowBo (w : World) (g : Nat) (l : List Bool) : Prop := w.heap[g]? = some (.cells (bvs l).toArray 4 (0, 0))
section
variable {w : World} {g : Nat} {l : List Bool}
theorem RowBo.fr (h : RowBo w g l) (i : Nat) : w.frozen? ⟨g, i, none⟩ = false := row_frozen h i
theorem RowBo.at (h : RowBo w g l) (i : Nat) (hi : i < l.length) : ∃ u, w.cell? ⟨g, i, none⟩ = some u := by
  rw [cell_of_row _ _ _ _ _ _ h, List.getElem?_toArray]
  exact ⟨_, List.getElem?_eq_getElem (by rw [bvs_length]; exact hi)⟩
theorem RowBo.set (h : RowBo w g l) (i : Nat) (x : Bool) : RowBo (w.setCell ⟨g, i, none⟩ (.bool x)) g (l.set i x) := by
  unfold RowBo at *
  rw [World.setCell]
  simp only [Array.getElem?_modify, if_pos, h, Option.map_some]
  have e : (bvs l).toArray.setIfInBounds i (.bool x) = (bvs (l.set i x)).toArray := by
    unfold bvs; rw [List.map_set]; simp
  simp [e]
theorem RowBo.keep {S : Nat → Prop} {w' : World} (h : RowBo w g l) (hk : Kept S w w') (hg : ¬ S g) : RowBo w' g l := hk.heap h hg
end
theorem rowBo_zeros {w : World} {B g q : Nat} (h : w.ownsRow B 4 1 (.slice (some ⟨g, 0, none⟩) q q) q (madeCells (Value.bool false).cells (q * 1)).toList) : RowBo w g (List.replicate q false) := by
  have e : bvs (List.replicate q false) = List.replicate q (.bool false) := by unfold bvs; rw [List.map_replicate]
  rw [Nat.mul_one, show (Value.bool false).cells = #[.bool false] from rfl, toList_madeCells_one, ← e] at h
  rcases h.2 with ⟨h1, h2⟩ | ⟨g', cap', cur, h1, hb, hrow, -, -, hs, ht⟩
  · cases h1
  · cases h1
    unfold RowBo
    rw [hrow]
    have hc : cur = (bvs (List.replicate q false)).toArray := by
      apply Array.ext'
      rw [← ht, Nat.mul_one, List.take_of_length_le (by rw [Array.length_toList, hs]; omega)]
    rw [hc]
theorem RowBo.cell {w : World} {g : Nat} {l : List Bool} (h : RowBo w g l) (i : Nat) (b : Bool) (hb : l[i]? = some b) : w.cell? ⟨g, i, none⟩ = some (.bool b) := by
  rw [cell_of_row _ _ _ _ _ _ h, List.getElem?_toArray]; unfold bvs; rw [List.getElem?_map, hb]; rfl
theorem infoBool : (Tryz.prog.info? 4).map (fun i => (i.zero, i.size, i.bytes)) = some (some (.bool false), 1, 1) := by kernel_rfl
def IdxP (bs : List Bool) (z : Int) : Prop := decide (0 ≤ z) = bs.contains false
set_option maxHeartbeats 1000000 in
theorem indexB_any (g n c : Nat) (bs : List Bool) (hn : Hid (n = bs.length)) (hn1 : n ≤ 1000000) (w : World) (H : Hid (RowBo w g bs)) :
    Calls Tryz.prog 134 #[.slice (some ⟨g, 0, none⟩) n c, .bool false] w fun e w' => (∃ z : Int, e = .returned (.int .i64 z) ∧ IdxP bs z) ∧ w = w' := by
  go_enter Tryz.func134, Tryz.ntmps134
  go_wp2
  go_loop [8] (fun v => ∃ k : Nat, k ≤ n ∧ v = .int .i64 (k : Int) ∧ ∀ j, j < k → bs[j]? = some true) (fun v => n - (intOf v).toNat)
  case atStart => exact ⟨0, Nat.zero_le _, rfl, fun j h => by omega⟩
  case round =>
    obtain ⟨k, hk, rfl, hall⟩ := hrel
    have HALL := Lib.hid hall
    clear hall
    by_cases hlt : k < n
    · obtain ⟨b, hb⟩ : ∃ b, bs[k]? = some b := ⟨_, List.getElem?_eq_getElem (by have := hn.out; omega)⟩
      have HB := Lib.hid hb
      have hcell := H.out.cell k b hb
      clear hb
      cases b
      · have HM : Hid (bs.contains false = true) := Lib.hid (by simpa using List.mem_of_getElem? HB.out)
        go_wp2
        go_ret
        exact ⟨⟨(k : Int), rfl, by unfold IdxP; rw [HM.out]; simp⟩, rfl⟩
      · go_wp2
        go_round
        case rel => exact ⟨k + 1, by omega, by go_num, fun j hj => by
          by_cases e : j = k
          · subst e; exact HB.out
          · exact HALL.out j (by omega)⟩
        case measure => simp [intOf]; omega
    · obtain rfl : k = n := by omega
      go_wp2
      go_ret
      refine ⟨⟨-1, rfl, ?_⟩, rfl⟩
      have : bs.contains false = false := by
        rw [List.contains_eq_any_beq, List.any_eq_false]
        intro x hx
        obtain ⟨j, hj⟩ := List.getElem?_of_mem hx
        have := HALL.out j (by rw [hn.out]; exact (List.getElem?_eq_some_iff.1 hj).1)
        rw [hj] at this; injection this with this; subst this; simp
      unfold IdxP; rw [this]; rfl
set_option maxHeartbeats 1000000 in
theorem containsB_any (g n c : Nat) (bs : List Bool) (hn : Hid (n = bs.length)) (hn1 : n ≤ 1000000) (w : World) (H : Hid (RowBo w g bs)) :
    Calls Tryz.prog 118 #[.slice (some ⟨g, 0, none⟩) n c, .bool false] w fun e w' => e = .returned (.bool (bs.contains false)) ∧ w = w' := by
  have HI := Lib.hid (indexB_any g n c bs hn hn1 w H)
  go_enter Tryz.func118, Tryz.ntmps118
  go_wp2_with (go_at_call 134; (with_reducible refine (HI.out).mono ?_); rintro e w2 ⟨⟨z, rfl, hz⟩, rfl⟩; have HZ := Lib.hid hz; clear hz)
  go_ret
  exact ⟨ret_eq (congrArg Value.bool HZ.out), rfl⟩
theorem OwnX.keptGX {w w' : World} {B n cap g : Nat} {A : Option Addr} {l : List (List Nat)} (h : OwnX w B A n cap l) (hk : Kept (Only g) w w') (hne : g < B) : OwnX w' B A n cap l :=
  ⟨h.1.kept (row := some g) ⟨hk.os, hk.tape, hk.output, hk.size, fun k hk1 hn => hk.block k hk1 fun e => hn (by rw [show k = g from e])⟩ (by
    have hb := h.base
    rcases A with _ | a
    · simp [Value.ownBlock]
    · have := hb a.block rfl
      simp [Value.ownBlock]; omega), h.2⟩
theorem OwnX.ltX {w : World} {B n cap : Nat} {A : Option Addr} {l : List (List Nat)} (h : OwnX w B A n cap l) (k : Nat) (hk : A.map (·.block) = some k) : k < w.heap.size := by
  rcases h.1.2 with ⟨h1, h2⟩ | ⟨g, cap', cur, h1, hb, hrow, _⟩
  · cases h1; cases hk
  · cases h1; simp at hk; subst hk; exact (Array.getElem?_eq_some_iff.1 hrow).1
theorem OwnX.keptS {S : Nat → Prop} {w w' : World} {B n cap : Nat} {A : Option Addr} {l : List (List Nat)} (h : OwnX w B A n cap l) (hk : Kept S w w') (hS : ∀ b, A.map (·.block) = some b → ¬ S b) : OwnX w' B A n cap l := by
  refine ⟨⟨h.1.1, ?_⟩, h.2⟩
  rcases h.1.2 with h1 | ⟨g, cap', cur, h1, hb, hrow, h2⟩
  · exact .inl h1
  · injection h1 with h3 h4 h5
    exact .inr ⟨g, cap', cur, by rw [h3, h5], hb, hk.heap hrow (hS g (by rw [h3]; rfl)), h2⟩
theorem OwnI.keptSI {S : Nat → Prop} {w w' : World} {B n cap : Nat} {A : Option Addr} {l : List Int} (h : OwnI w B A n cap l) (hk : Kept S w w') (hS : ∀ b, A.map (·.block) = some b → ¬ S b) : OwnI w' B A n cap l := by
  refine ⟨⟨h.1.1, ?_⟩, h.2⟩
  rcases h.1.2 with h1 | ⟨g, cap', cur, h1, hb, hrow, h2⟩
  · exact .inl h1
  · injection h1 with h3 h4 h5
    exact .inr ⟨g, cap', cur, by rw [h3, h5], hb, hk.heap hrow (hS g (by rw [h3]; rfl)), h2⟩
namespace Col
theorem rU_few {q r : List Nat} {ts : List (List Nat)} (h : rU q = some (ts, r)) : ts.length ≤ 4096 := by
  unfold rU at h
  rcases hu : uP 4096 q with _ | ⟨n, r1⟩
  · rw [hu] at h; cases h
  · rw [hu] at h
    simp only [Option.bind_some] at h
    rcases hr : runS (tP 32) n r1 with _ | ⟨l, r2⟩
    · rw [hr] at h; cases h
    · rw [hr] at h
      simp only [Option.bind_some] at h
      split at h
      · injection h with h; injection h with h1 h2
        rw [← h1, runS_len hr]; exact (uP_some hu).2
      · cases h
/-- Which places are told. -/
def usedL (n : Nat) (xs : List Int) : List Bool := (List.range n).map fun (i : Nat) => xs.contains (i : Int)
theorem usedL_len (n : Nat) (xs : List Int) : (usedL n xs).length = n := by unfold usedL; simp
theorem usedL_nil (n : Nat) : usedL n [] = List.replicate n false := by
  unfold usedL
  apply List.ext_getElem
  · simp
  · intro i h1 h2; simp
theorem usedL_snoc (n : Nat) (xs : List Int) (i : Nat) : usedL n (xs ++ [(i : Int)]) = (usedL n xs).set i true := by
  unfold usedL
  apply List.ext_getElem
  · simp
  · intro j h1 h2
    rw [List.getElem_set]
    simp only [List.getElem_map, List.getElem_range]
    by_cases e : i = j
    · subst e; rw [if_pos rfl]; simp
    · rw [if_neg e]
      rw [Bool.eq_iff_iff]
      simp only [List.contains_eq_mem, List.mem_append, List.mem_singleton, decide_eq_true_eq]
      constructor
      · rintro (h | h)
        · exact h
        · exact (e (by omega)).elim
      · exact .inl
def pickT (ts : List (List Nat)) (x : Int) : List Nat := ts.getD x.toNat []
def okT (ts : List (List Nat)) (xs : List Int) : Bool := (xs.all fun x => decide (0 ≤ x) && decide (x < (ts.length : Int))) && !(usedL ts.length xs).contains false
def rT (q : List Nat) : Option (List (List Nat) × List Nat) := (rU q).bind fun u => (rI u.2).bind fun p => if okT u.1 p.1 = true then some (p.1.map (pickT u.1), p.2) else none
theorem rT_no1 {q : List Nat} (h : rU q = none) : rT q = none := by unfold rT; rw [h]; rfl
theorem rT_no2 {q r : List Nat} {ts : List (List Nat)} (h : rU q = some (ts, r)) (h2 : rI r = none) : rT q = none := by unfold rT; rw [h]; simp [h2]
theorem rT_no3 {q r r2 : List Nat} {ts : List (List Nat)} {xs : List Int} (h : rU q = some (ts, r)) (h2 : rI r = some (xs, r2)) (h3 : okT ts xs = false) : rT q = none := by unfold rT; rw [h]; simp [h2, h3]
theorem rT_yes {q r r2 : List Nat} {ts : List (List Nat)} {xs : List Int} (h : rU q = some (ts, r)) (h2 : rI r = some (xs, r2)) (h3 : okT ts xs = true) : rT q = some (xs.map (pickT ts), r2) := by unfold rT; rw [h]; simp [h2, h3]
theorem okT_bad {ts : List (List Nat)} {xs : List Int} {k : Nat} {x : Int} (h : xs[k]? = some x) (hx : ¬ (0 ≤ x ∧ x < (ts.length : Int))) : okT ts xs = false := by
  unfold okT
  rw [Bool.and_eq_false_iff]; left
  rw [List.all_eq_false]
  refine ⟨x, List.mem_of_getElem? h, ?_⟩
  simpa using hx
theorem okT_end {ts : List (List Nat)} {xs : List Int} (h : ∀ (k : Nat) (x : Int), xs[k]? = some x → 0 ≤ x ∧ x < (ts.length : Int)) : okT ts xs = !(usedL ts.length xs).contains false := by
  unfold okT
  have : (xs.all fun x => decide (0 ≤ x) && decide (x < (ts.length : Int))) = true := by
    rw [List.all_eq_true]
    intro x hx
    obtain ⟨k, hk⟩ := List.getElem?_of_mem hx
    simpa using h k x hk
  rw [this, Bool.true_and]
theorem pickT_at {ts : List (List Nat)} {i : Nat} {t : List Nat} (h : ts[i]? = some t) : pickT ts (i : Int) = t := by unfold pickT; rw [List.getD_eq_getElem?_getD]; simp [h]
end Col
/-- How readTexts ends. -/
def TEnds (g : Nat) (o : Option (List (List Nat) × List Nat)) (w : World) (e : Ending) (w' : World) : Prop := match o with
  | some p => ∃ L n, e = .returned (.slice (some ⟨L, 0, none⟩) n n) ∧ n = p.1.length ∧ w.heap.size ≤ L ∧ RowT w' L p.1 ∧ RdM g p.2 w' ∧ Kept (Only g) w w' ∧ (∀ t ∈ p.1, WfT t)
  | none => e = .panicked [gu g] ∧ Gone w' g ∧ Kept (Only g) w w'
structure RTx (g : Nat) (w : World) (A1 : Option Addr) (n1 c1 : Nat) (ts : List (List Nat)) (A2 : Option Addr) (n2 c2 : Nat) (xs : List Int) (ub lb : Nat) (r : List Nat) (k : Nat) (wr : World) : Prop where
  own1 : OwnX wr w.heap.size A1 n1 c1 ts
  own2 : OwnI wr w.heap.size A2 n2 c2 xs
  off1 : ∀ b, A1.map (·.block) = some b → b < ub ∧ b < lb
  off2 : ∀ b, A2.map (·.block) = some b → b < ub ∧ b < lb
  hub : w.heap.size ≤ ub
  hlb : w.heap.size ≤ lb
  ne : ub ≠ lb
  used : RowBo wr ub (usedL n1 (xs.take k))
  row : RowT wr lb ((xs.take k).map (pickT ts) ++ List.replicate (n2 - k) [])
  rd : RdM g r wr
  kept : Kept (Only g) w wr
  ok : ∀ (j : Nat) (x : Int), j < k → xs[j]? = some x → 0 ≤ x ∧ x < (n1 : Int)
set_option maxHeartbeats 8000000 in
theorem readTexts_any (g : Nat) (q : List Nat) (w : World) (H : Hid (RdM g q w)) :
    Calls Tryz.prog 78 #[.pointer (some ⟨g, 0, none⟩)] w (TEnds g (rT q) w) := by
  obtain ⟨ib, hib, hb0, hb1, hb2⟩ := info_parts infoBool
  obtain ⟨is, his, hs0, hs1, hs2⟩ := info_parts infoStr'
  have HU := Lib.hid (readUnlike_any g q w H)
  rcases hu : rU q with _ | ⟨ts, r⟩
  · have HN := Lib.hid (rT_no1 hu)
    rw [hu] at HU
    rw [HN.out]
    clear hu
    go_enter Tryz.func78, Tryz.ntmps78
    go_wp2_with (go_at_call 117; (with_reducible refine (HU.out).mono ?_); rintro e w2 ⟨rfl, h1, h2⟩)
    exact ⟨rfl, rfl, h1, h2⟩
  · have HUU := Lib.hid hu
    rw [hu] at HU
    clear hu
    have HRI := Lib.hid fun w2 (h : Hid (RdM g r w2)) => readInts_any g r w2 h
    rcases hi : rI r with _ | ⟨xs, r2⟩
    · have HN := Lib.hid (rT_no2 HUU.out hi)
      rw [hi] at HRI
      rw [HN.out]
      clear hi
      go_enter Tryz.func78, Tryz.ntmps78
      go_wp2_with (first
        | (go_at_call 117; (with_reducible refine (HU.out).mono ?_); rintro e w2 ⟨⟨A1, n1, c1, rfl, ho⟩, h1, h2⟩; have HRD := Lib.hid h1; have HK := Lib.hid h2; clear ho h1 h2)
        | (go_at_call 76; refine (HRI.out _ HRD).mono ?_; rintro e w3 ⟨rfl, h1, h2⟩))
      exact ⟨rfl, rfl, h1, HK.out.trans h2⟩
    · have HII := Lib.hid hi
      have hxl := rI_len hi
      rw [hi] at HRI
      clear hi
      have HGB := Lib.hid H.out.1.glt
      go_enter Tryz.func78, Tryz.ntmps78
      go_upto_region 3 with (first
        | (go_at_call 117; (with_reducible refine (HU.out).mono ?_); rintro e w2 ⟨⟨A1, n1, c1, rfl, ho⟩, h1, h2⟩; have HO1 := Lib.hid ho; have HRD := Lib.hid h1; have HK := Lib.hid h2; clear ho h1 h2)
        | (go_at_call 76; refine (HRI.out _ HRD).mono ?_; rintro e w3 ⟨⟨A2, n2, c2, rfl, ho⟩, h1, h2⟩; have HO2 := Lib.hid ho; have HRD3 := Lib.hid h1; have HK3 := Lib.hid h2; clear ho h1 h2))
      have hn1 : n1 ≤ 4096 := by
        have h1 : n1 = ts.length := HO1.out.len
        have h2 := rU_few HUU.out
        omega
      have hn2 : n2 ≤ 4096 := by have h1 : n2 = xs.length := HO2.out.len; omega
      have hzb1 : ib.bytes * n1 ≤ 281474976710656 := by rw [hb2]; omega
      have hzb2 : is.bytes * n2 ≤ 281474976710656 := by rw [hs2]; omega
      have hnm1 : n1 ≤ maxLen := by unfold maxLen; omega
      have hnm2 : n2 ≤ maxLen := by unfold maxLen; omega
      have HN1 : Hid (n1 = ts.length) := Lib.hid HO1.out.len
      have HN2 : Hid (n2 = xs.length) := Lib.hid HO2.out.len
      have HO13 : Hid (OwnX w3 w.heap.size A1 n1 c1 ts) := Lib.hid (HO1.out.keptGX HK3.out HGB.out)
      have HO23 : Hid (OwnI w3 w.heap.size A2 n2 c2 xs) := Lib.hid (HO2.out.more HK.out.size)
      have HKA := Lib.hid (HK.out.trans HK3.out)
      obtain ⟨ub, hub⟩ : ∃ ub, ub = w3.heap.size := ⟨_, rfl⟩
      go_upto_region 4 with (refine wpList_make_full _ rfl (.tmp 14) (.tmp 14) 135 rfl w3.heap.size 4 ib (.bool false) 1 Tryz.underlying135 hib hb0 hb1 .i64 .i64 _ _ n1 rfl rfl rfl rfl hzb1 hnm1 (Nat.le_refl _) ?_; intro w4 own hgr; have HRB := Lib.hid (rowBo_zeros own); have HB4 : Hid (Below w3.heap.size w3 w4) := Lib.hid ((Below.refl _ w3).grown hgr (Nat.le_refl _) (by intro k hk; cases hk)); clear own hgr)
      obtain ⟨lb, hlb⟩ : ∃ lb, lb = w4.heap.size := ⟨_, rfl⟩
      go_upto_region 5 with (refine wpList_make_full _ rfl (.tmp 17) (.tmp 17) 41 rfl w4.heap.size 9 is (.string { data := #[] }) 1 Tryz.underlying41 his hs0 hs1 .i64 .i64 _ _ n2 rfl rfl rfl rfl hzb2 hnm2 (Nat.le_refl _) ?_; intro w5 own hgr; have HRS := Lib.hid (rowT_zeros own); have HB5 : Hid (Below w4.heap.size w4 w5) := Lib.hid ((Below.refl _ w4).grown hgr (Nat.le_refl _) (by intro k hk; cases hk)); clear own hgr)
      rw [← hub, ← hlb]
      have HST : Hid (RTx g w A1 n1 c1 ts A2 n2 c2 xs ub lb r2 0 w5) := Lib.hid (by
        have h4 : ub < w4.heap.size := by rw [hub]; exact (Array.getElem?_eq_some_iff.1 HRB.out).1
        refine ⟨(HO13.out.keep HB4.out).keep HB5.out, (HO23.out.keep HB4.out).keep HB5.out, fun b hb => ?_, fun b hb => ?_, ?_, ?_, by omega, ?_, ?_, ?_, (HKA.out.trans (Kept.of_below HB4.out)).trans (Kept.of_below HB5.out), fun j x h => by omega⟩
        · have h5 := HO13.out.ltX b hb; omega
        · have h5 := HO23.out.ltI b hb; omega
        · rw [hub]; exact HKA.out.size
        · have := HKA.out.size; omega
        · rw [List.take_zero, usedL_nil, hub]; exact HRB.out.keep (Kept.of_below (S := fun _ => False) HB5.out) fun e => e
        · rw [List.take_zero, hlb]; simpa using HRS.out
        · exact ⟨(HRD3.out.1.high (S := fun _ => False) (Kept.of_below HB4.out) fun k hk => hk.elim).high (S := fun _ => False) (Kept.of_below HB5.out) fun k hk => hk.elim, HRD3.out.2⟩)
      clear HU HRI HO1 HO2 HRD HK HRD3 HK3 HO13 HO23 HKA HRB HRS HB4 HB5 hub hlb hzb1 hzb2 hnm1 hnm2
      go_wp2
      go_loopw [21] (fun v wr => ∃ k : Nat, k ≤ n2 ∧ v = .int .i64 (k : Int) ∧ RTx g w A1 n1 c1 ts A2 n2 c2 xs ub lb r2 k wr) (fun v _ => n2 - (intOf v).toNat)
      case atStart => exact ⟨0, Nat.zero_le _, rfl, HST.out⟩
      case round =>
        obtain ⟨k, hk, rfl, hrx⟩ := hrel
        have HX := Lib.hid hrx
        clear hrx HST
        obtain ⟨A9, C9, hRA⟩ := HX.out.rd.1
        have HRA := Lib.hid hRA
        clear hRA
        by_cases hlt : k < n2
        · obtain ⟨x, hx⟩ : ∃ x, xs[k]? = some x := ⟨_, List.getElem?_eq_getElem (by have := HN2.out; omega)⟩
          obtain ⟨g3, o3, rfl, hg3, hcx⟩ := HX.out.own2.isAt.spot (by have := HN2.out; omega)
          have hc3 := hcx k x hx
          have HXK := Lib.hid hx
          clear hx hcx
          by_cases hok : 0 ≤ x ∧ x < (n1 : Int)
          · obtain ⟨i, hi⟩ : ∃ i : Nat, x = (i : Int) := ⟨x.toNat, by omega⟩
            subst hi
            obtain ⟨hx0, hxn⟩ := hok
            have hin : i < n1 := by omega
            obtain ⟨t, ht⟩ : ∃ t, ts[i]? = some t := ⟨_, List.getElem?_eq_getElem (by have := HN1.out; omega)⟩
            obtain ⟨g1, o1, rfl, hg1, hct⟩ := HX.out.own1.isAt.spot (by have := HN1.out; omega)
            have hc1 := hct i t ht
            have hoff := HX.out.off1 g1 rfl
            have hne1 : ¬ ub = g1 := by omega
            have hne1' : ¬ g1 = ub := by omega
            have hne2 : ¬ ub = lb := HX.out.ne
            have hne2' : ¬ lb = ub := fun e => HX.out.ne e.symm
            have HPT := Lib.hid (pickT_at ht)
            have fu := HX.out.used.fr i
            obtain ⟨u1, cu⟩ := HX.out.used.at i (by rw [usedL_len]; exact hin)
            have fl := HX.out.row.fr k
            obtain ⟨u2, cl⟩ := HX.out.row.at k (by rw [List.length_append, List.length_map, List.length_replicate, List.length_take]; have := HN2.out; omega)
            have HSET := Lib.hid (fill_setT ((xs.take k).map (pickT ts)) n2 k (by rw [List.length_map, List.length_take]; have := HN2.out; omega) hlt t)
            have HTK : Hid (xs.take (k + 1) = xs.take k ++ [(i : Int)]) := Lib.hid (by rw [List.take_add_one, HXK.out]; rfl)
            clear ht hct hoff
            go_wp2_with (go_at_call 51; (with_reducible refine (check_true _ _).mono ?_); rintro e w6 ⟨rfl, rfl⟩)
            go_roundw
            case rel =>
              refine ⟨k + 1, by omega, by go_num, ?_⟩
              have hk1 : Kept (fun k => k = ub ∨ k = lb) wr ((wr.setCell ⟨ub, i, none⟩ (.bool true)).setCell ⟨lb, k, none⟩ (.string (strB t))) := ((Kept.refl _ _).setCell _ _ (.inl (.inl rfl))).setCell _ _ (.inl (.inr rfl))
              have X := HX.out
              have hgl := HGB.out
              have hu1 := X.hub
              have hl1 := X.hlb
              refine ⟨X.own1.keptS hk1 (fun b hb => by have := X.off1 b hb; omega), X.own2.keptSI hk1 (fun b hb => by have := X.off2 b hb; omega), X.off1, X.off2, X.hub, X.hlb, X.ne, ?_, ?_, ⟨X.rd.1.high hk1 fun k hk => by omega, X.rd.2⟩, X.kept.trans' hk1 fun i hi => by right; omega, ?_⟩
              · rw [HTK.out, usedL_snoc]
                exact (X.used.set i true).keep (S := fun k => k = lb) ((Kept.refl _ _).setCell _ _ (.inl rfl)) hne2
              · rw [HTK.out, List.map_append, List.map_cons, List.map_nil, HPT.out, ← HSET.out]
                exact (X.row.keep (S := fun k => k = ub) ((Kept.refl _ _).setCell _ _ (.inl rfl)) hne2').set k t
              · intro j y hj hy
                by_cases e : j = k
                · subst e; rw [HXK.out] at hy; injection hy with hy; subst hy; exact ⟨hx0, hxn⟩
                · exact X.ok j y (by omega) hy
            case measure => simp [intOf]; omega
          · have HN := Lib.hid (rT_no3 HUU.out HII.out (okT_bad HXK.out (by rw [← HN1.out]; exact hok)))
            rw [HN.out]
            by_cases hx0 : 0 ≤ x
            · have hxn : ¬ x < (n1 : Int) := fun h => hok ⟨hx0, h⟩
              clear hok
              go_wp2_with (go_at_call 51; (with_reducible refine (check_false g C9 A9 r2 _ HRA).mono ?_); rintro e w6 ⟨rfl, h1, h2⟩)
              exact ⟨rfl, rfl, h1, HX.out.kept.trans h2⟩
            · clear hok
              go_wp2_with (go_at_call 51; (with_reducible refine (check_false g C9 A9 r2 _ HRA).mono ?_); rintro e w6 ⟨rfl, h1, h2⟩)
              exact ⟨rfl, rfl, h1, HX.out.kept.trans h2⟩
        · obtain rfl : k = n2 := by omega
          have hall : xs.take k = xs := List.take_of_length_le (by have := HN2.out; omega)
          have HRU : Hid (RowBo wr ub (usedL n1 xs)) := Lib.hid (by have := HX.out.used; rwa [hall] at this)
          have HRW : Hid (RowT wr lb (xs.map (pickT ts))) := Lib.hid (by have := HX.out.row; rw [hall, Nat.sub_self, List.replicate_zero, List.append_nil] at this; exact this)
          have HOK : Hid (okT ts xs = !(usedL n1 xs).contains false) := Lib.hid (by
            rw [HN1.out]
            exact okT_end fun j x hj => by
              have h9 := HX.out.ok j x (by have := (List.getElem?_eq_some_iff.1 hj).1; have := HN2.out; omega) hj
              rw [HN1.out] at h9; exact h9)
          have HC := Lib.hid (containsB_any ub n1 n1 (usedL n1 xs) (Lib.hid (usedL_len _ _).symm) (by omega) wr HRU)
          rcases hb : (usedL n1 xs).contains false with _ | _
          · rw [hb] at HOK HC
            have HN := Lib.hid (rT_yes HUU.out HII.out HOK.out)
            rw [HN.out]
            clear hb hall
            go_wp2_with (first
              | (go_at_call 118; (with_reducible refine (HC.out).mono ?_); rintro e w6 ⟨rfl, rfl⟩)
              | (go_at_call 51; (with_reducible refine (check_true _ _).mono ?_); rintro e w7 ⟨rfl, rfl⟩))
            go_ret
            show TEnds g (rT q) w _ _
            rw [HN.out]
            refine ⟨lb, k, rfl, by rw [List.length_map]; exact HN2.out, HX.out.hlb, HRW.out, HX.out.rd, HX.out.kept, fun t ht => ?_⟩
            obtain ⟨x, hx, rfl⟩ := List.mem_map.1 ht
            obtain ⟨j, hj⟩ := List.getElem?_of_mem hx
            have h9 := HX.out.ok j x (by have := (List.getElem?_eq_some_iff.1 hj).1; have := HN2.out; omega) hj
            obtain ⟨i, rfl⟩ : ∃ i : Nat, x = (i : Int) := ⟨x.toNat, by omega⟩
            obtain ⟨t, ht⟩ : ∃ t, ts[i]? = some t := ⟨_, List.getElem?_eq_getElem (by have := HN1.out; omega)⟩
            rw [pickT_at ht]
            exact HX.out.own1.2 t (List.mem_of_getElem? ht)
          · rw [hb] at HOK HC
            have HN := Lib.hid (rT_no3 HUU.out HII.out HOK.out)
            rw [HN.out]
            clear hb hall
            go_wp2_with (first
              | (go_at_call 118; (with_reducible refine (HC.out).mono ?_); rintro e w6 ⟨rfl, rfl⟩)
              | (go_at_call 51; (with_reducible refine (check_false g C9 A9 r2 _ HRA).mono ?_); rintro e w7 ⟨rfl, h1, h2⟩))
            refine ⟨rfl, ?_⟩
            show TEnds g (rT q) w _ _
            rw [HN.out]
            exact ⟨rfl, h1, HX.out.kept.trans h2⟩
end Go.Proofs.YtpobfgokikfmbaaGreatDoor

set_option linter.unusedSimpArgs false
set_option linter.unusedVariables false
set_option maxRecDepth 8000
namespace Go.Proofs.YtpobfgokikfmbaaGreatDoor
open Go.RowKit Go.WideShapes Col
namespace Col
/-- Numbers with a point that are all of some bytes. -/
def rTL (q : List Nat) : Option (List (List Nat)) := match rT q with
  | some (us, []) => some us
  | _ => none
theorem rTL_some {q : List Nat} {us : List (List Nat)} (h : rT q = some (us, [])) : rTL q = some us := by unfold rTL; rw [h]
theorem rTL_none {q : List Nat} (h : rT q = none) : rTL q = none := by unfold rTL; rw [h]
theorem rTL_left {q r : List Nat} {us : List (List Nat)} (h : rT q = some (us, r)) (hr : r ≠ []) : rTL q = none := by
  unfold rTL; rw [h]
  rcases r with _ | ⟨x, r⟩
  · exact (hr rfl).elim
  · rfl
end Col
/-- What the list's cell holds behind the reading. -/
def RdTA (q : List Nat) (cl B : Nat) (b : Bool) (w : World) : Prop := match b with
  | true => ∃ L n us, rTL q = some us ∧ n = us.length ∧ w.heap[cl]? = some (.cells #[.slice (some ⟨L, 0, none⟩) n n] 41 (0, 0)) ∧ RowT w L us ∧ B ≤ L
  | false => rTL q = none
theorem RdTA.keep {q : List Nat} {cl B B' g : Nat} {b : Bool} {w w' : World} (h : RdTA q cl B b w) (hk : Kept (Only g) w w') (h1 : cl ≠ g) (h2 : g < B) (hB : B' ≤ B) : RdTA q cl B' b w' := by
  cases b with
  | false => exact h
  | true =>
    obtain ⟨L, n, us, e1, e2, hrow, hrf, hl⟩ := h
    exact ⟨L, n, us, e1, e2, hk.heap hrow fun e => h1 e, hrf.keep hk (fun e => by have e : L = g := e; omega), by omega⟩
theorem rdta_no {q : List Nat} {cl B : Nat} {b : Bool} {w : World} (h : rTL q = none) (hr : RdTA q cl B b w) : b = false := by
  rcases b with _ | _
  · rfl
  · obtain ⟨L, n, us, e1, -⟩ := hr
    rw [h] at e1; cases e1
theorem rdta_yes {q : List Nat} {us : List (List Nat)} {cl B : Nat} {b : Bool} {w : World} (h : rTL q = some us) (hr : RdTA q cl B b w) : b = true := by
  rcases b with _ | _
  · have hr : rTL q = none := hr
    rw [h] at hr; cases hr
  · rfl
set_option maxHeartbeats 2000000 in
theorem listFnT_any (g bf cl : Nat) (q : List Nat) (hql : q.length ≤ 1099511627776) (w : World) (HR : Hid (Rd w g q)) (Hf : Hid (w.heap[bf]? = some (.cells #[.func (.func 78) #[] #[]] 105 (0, 0)))) (Hc : Hid (w.heap[cl]? = some (.cells #[.slice none 0 0] 41 (0, 0)))) (h1 : cl < g) (h2 : bf < g) :
    Calls Tryz.prog 116 #[.pointer (some ⟨g, 0, none⟩), .pointer (some ⟨bf, 0, none⟩), .pointer (some ⟨cl, 0, none⟩)] w (Tried g (fun k => k = cl) (RdTA q cl (g + 1)) w) := by
  have hc : w.cell? ⟨bf, 0, none⟩ = some (.func (.func 78) #[] #[]) := by rw [cell_of_row _ _ _ _ _ _ Hf.out]; rfl
  have HI := Lib.hid (readTexts_any g q w (Lib.hid ⟨HR.out, hql⟩))
  have hgl := HR.out.glt
  rcases ho : rT q with _ | ⟨us, r⟩
  · have HO := Lib.hid ho
    clear ho
    go_enter Tryz.func116, Tryz.ntmps116
    go_wp2_with (go_at_call 78; refine (HI.out).mono ?_; intro e w3 h8; rw [HO.out] at h8; obtain ⟨rfl, h1, h2⟩ := h8)
    exact ⟨rfl, h2.mono fun k hk => .inl (.inr hk), .inr ⟨rfl, h1, rTL_none HO.out⟩⟩
  · have HO := Lib.hid ho
    clear ho
    go_enter Tryz.func116, Tryz.ntmps116
    go_wp2_with (go_at_call 78; refine (HI.out).mono ?_; intro e w3 h8; rw [HO.out] at h8; obtain ⟨L, n, rfl, hn, hL, hrf, hrd, hk, -⟩ := h8; have HN := Lib.hid hn; have HL := Lib.hid hL; have HRF := Lib.hid hrf; have HRD := Lib.hid hrd; have HK := Lib.hid hk; have hrow := hk.heap Hc.out (fun e => by have e : cl = g := e; omega); have c3 : w3.cell? ⟨cl, 0, none⟩ = some (.slice none 0 0) := (by rw [cell_of_row _ _ _ _ _ _ hrow]; rfl); have f3 : w3.frozen? ⟨cl, 0, none⟩ = false := row_frozen hrow 0; have HROW := Lib.hid hrow; clear hn hL hrf hrd hk hrow)
    have hk : Kept (fun k => k = cl) w3 (w3.setCell ⟨cl, 0, none⟩ (.slice (some ⟨L, 0, none⟩) n n)) := (Kept.refl _ _).setCell _ _ (.inl rfl)
    have hrow2 : (w3.setCell ⟨cl, 0, none⟩ (.slice (some ⟨L, 0, none⟩) n n)).heap[cl]? = some (.cells #[.slice (some ⟨L, 0, none⟩) n n] 41 (0, 0)) := by
      have := HROW.out; rw [World.setCell]; simp [Array.getElem?_modify, this]
    have hkk : Kept (fun k => k = cl ∨ k = g) w (w3.setCell ⟨cl, 0, none⟩ (.slice (some ⟨L, 0, none⟩) n n)) := (HK.out.mono fun k hk => .inl (.inr hk)).setCell _ _ (.inl (.inl rfl))
    have hL := HL.out
    refine bodyPost_end (results_none rfl _ _ _) rfl ⟨hkk, .inl ⟨r, rfl, HRD.out.1.high' hk (fun k hk => by have hk : k = cl := hk; omega) (fun A C h => off_slice h.bytes HROW.out), ?_⟩⟩
    by_cases hr : r = []
    · subst hr
      exact ⟨L, n, us, rTL_some HO.out, HN.out, hrow2, HRF.out.keep hk (fun e => by have e : L = cl := e; omega), by omega⟩
    · have : decide (r = []) = false := by simpa using hr
      rw [this]
      exact rTL_left HO.out hr
/-- How ReadReals ends. -/
def RTEnds (o : Option (List (List Nat))) (w : World) (e : Ending) (w' : World) : Prop := match o with
  | some us => (∃ L n, e = .returned (.tuple #[.slice (some ⟨L, 0, none⟩) n n, .int .i64 0]) ∧ n = us.length ∧ RowT w' L us) ∧ Below w.heap.size w w'
  | none => e = .returned (.tuple #[.slice none 0 0, .int .i64 3]) ∧ Below w.heap.size w w'
set_option maxHeartbeats 2000000 in
theorem readListT_any (A : Option Addr) (C : Nat) (q : List Nat) (n : Nat) (hn : Hid (n = q.length)) (hn4 : n ≤ 1099511627776) (hC : n ≤ C) (hC' : C ≤ maxLen) (w : World) (HA : Hid (ByAt w A q)) :
    Calls Tryz.prog 77 #[.slice A n C, .func (.func 78) #[] #[]] w (RTEnds (rTL q) w) := by
  obtain ⟨bf, w1, hbf, hw1, hrow1, hb1, hbf1⟩ := alloc_pt w (.func (.func 78) #[] #[]) 105
  obtain ⟨cl, w2, hcl, hw2, hrow2, hb2, hcl2⟩ := alloc_pt w1 (.slice none 0 0) 41
  have HW : Hid ((w.alloc (.cells #[.func (.func 78) #[] #[]] 105)).alloc (.cells #[.slice none 0 0] 41) = w2) := Lib.hid (by rw [hw2, hw1])
  have hsz : w1.heap.size = w.heap.size + 1 := by rw [hw1]; simp
  have HBF := Lib.hid hbf; have HCL : Hid (cl = w.heap.size + 1) := Lib.hid (by rw [hcl, hsz])
  have HB2 : Hid (Below w.heap.size w w2) := Lib.hid (below_to hb1 hb2)
  have hrf2 := (Kept.of_below (S := fun _ => False) hb2).heap hrow1 fun e => e
  have ht := try_any 116 #[] #[.pointer (some ⟨bf, 0, none⟩), .pointer (some ⟨cl, 0, none⟩)] A C q n hn hC hC' w2 (Lib.hid (HA.out.keep HB2.out)) (fun k => k = cl) (fun k hk => by have hk : k = cl := hk; omega)
    (fun g => RdTA q cl (g + 1)) (RdTA q cl w2.heap.size) (fun g b v2 v3 hg h hk => h.keep hk (by omega) (Nat.lt_succ_self _) (by omega))
    (fun g v1 hg hr hb => listFnT_any g bf cl q (by rw [← hn.out]; exact hn4) v1 (Lib.hid hr) (Lib.hid ((Kept.of_below (S := fun _ => False) hb).heap hrf2 fun e => e)) (Lib.hid ((Kept.of_below (S := fun _ => False) hb).heap hrow2 fun e => e)) (by omega) (by omega))
    (fun _ _ => by first | rfl | kernel_rfl)
  have HT := Lib.hid ht
  have HR2 := Lib.hid hrow2
  clear ht hbf hw1 hrow1 hb1 hcl hw2 hrow2 hb2 hrf2 hbf1
  go_enter Tryz.func77, Tryz.ntmps77
  go_upto_region 2 with fail
  have e1 : w.heap.size = bf := HBF.out.symm
  have e2 : w.heap.size + 1 = cl := HCL.out.symm
  have hx : ∀ (w3 : World), Kept (fun k => k = cl) w2 w3 → Below w.heap.size w w3 := fun w3 hk => HB2.out.trans (hk.below (B := w.heap.size) (by omega) fun k hk => by have hk : k = cl := hk; omega)
  have HX := Lib.hid hx
  clear hx
  rw [HW.out, e2, e1]
  clear e1 e2
  rcases ho : rTL q with _ | us
  · have HO := Lib.hid ho
    clear ho
    go_wp2_with (go_at_call 19; (with_reducible refine (HT.out).mono ?_); rintro e w3 ⟨b, rfl, hr, hk⟩; obtain rfl := rdta_no HO.out hr; have HB3 := Lib.hid (HX.out w3 hk); clear hr hk)
    go_ret2
    rw [HO.out]
    exact ⟨rfl, HB3.out⟩
  · have HO := Lib.hid ho
    clear ho
    go_wp2_with (go_at_call 19; (with_reducible refine (HT.out).mono ?_); rintro e w3 ⟨b, rfl, hr, hk⟩; obtain rfl := rdta_yes HO.out hr; have HB3 := Lib.hid (HX.out w3 hk); obtain ⟨L, n9, us9, e9, h8, hrow9, hrf9, hl9⟩ := hr; rw [HO.out] at e9; injection e9 with e9; subst e9; have HN9 := Lib.hid h8; have HRF := Lib.hid hrf9; have c9c : w3.cell? ⟨cl, 0, none⟩ = some (.slice (some ⟨L, 0, none⟩) n9 n9) := (by rw [cell_of_row _ _ _ _ _ _ hrow9]; rfl); clear hk hrow9 hrf9 h8 hl9)
    go_ret2
    rw [HO.out]
    exact ⟨⟨L, n9, rfl, HN9.out, HRF.out⟩, HB3.out⟩
set_option maxHeartbeats 2000000 in
theorem readTextsC_any (A : Option Addr) (C : Nat) (q : List Nat) (n : Nat) (hn : Hid (n = q.length)) (hn4 : n ≤ 1099511627776) (hC : n ≤ C) (hC' : C ≤ maxLen) (w : World) (HA : Hid (ByAt w A q)) :
    Calls Tryz.prog 48 #[.slice A n C] w (RTEnds (rTL q) w) := by
  have HT := Lib.hid (readListT_any A C q n hn hn4 hC hC' w HA)
  rcases ho : rTL q with _ | l
  · have HO := Lib.hid ho
    rw [ho] at HT
    clear ho
    go_enter Tryz.func48, Tryz.ntmps48
    go_wp2_with (go_at_call 77; (with_reducible refine (HT.out).mono ?_); rintro e w3 ⟨rfl, hb⟩; have HB := Lib.hid hb; clear hb)
    go_ret2
    exact ⟨rfl, HB.out⟩
  · have HO := Lib.hid ho
    rw [ho] at HT
    clear ho
    go_enter Tryz.func48, Tryz.ntmps48
    go_wp2_with (go_at_call 77; (with_reducible refine (HT.out).mono ?_); rintro e w3 ⟨⟨L, n9, rfl, h8, ho⟩, hb⟩; have HB := Lib.hid hb; have HOW := Lib.hid ho; have HN := Lib.hid h8; clear hb ho h8)
    go_ret2
    exact ⟨⟨L, n9, rfl, HN.out, HOW.out⟩, HB.out⟩
end Go.Proofs.YtpobfgokikfmbaaGreatDoor

set_option linter.unusedSimpArgs false
set_option linter.unusedVariables false
set_option maxRecDepth 8000
namespace Go.Proofs.YtpobfgokikfmbaaGreatDoor
open Go.RowKit Go.WideShapes Col

theorem conv_sb (s : List Nat) (hs : WfT s) (n : Nat) (hn : n = s.length) (w : World) : ∃ (w' : World) (C : Nat), (convert 9 22 (.string (strB s))).run Tryz.prog w = .ok (.slice (some ⟨w.heap.size, 0, none⟩) n C) w' ∧ ByAt w' (some ⟨w.heap.size, 0, none⟩) s ∧ Below w.heap.size w w' := by
  have h := Go.Lib.run_convert_string_bytes w 9 22 5 (strB s) Tryz.underlying9 Tryz.underlying22 Tryz.underlying5
  rw [show (strB s).size = n by rw [strB_size, hn]] at h
  refine ⟨_, _, h, fun k x hx => ?_, ⟨rfl, rfl, rfl, by rw [Go.Lib.bytesWorld_size]; omega, fun k hk => Go.Lib.bytesWorld_at_old _ _ _ k hk⟩⟩
  · have hx256 := hs x (List.mem_of_getElem? hx)
    refine ⟨hx256, _, 0, rfl, by rw [Go.Lib.bytesWorld_size]; omega, ?_⟩
    have hk := (List.getElem?_eq_some_iff.1 hx).1
    rw [Nat.zero_add, Go.Lib.bytesWorld_cell w _ (strB s) k (by rw [strB_size]; exact hk)]
    have e : (strB s).data.toList.getD k 0 = UInt8.ofNat x := by
      unfold strB; rw [strOfNums_data, List.getD_eq_getElem?_getD, List.getElem?_map, List.getElem?_map, hx]; rfl
    rw [e, UInt8.toNat_ofNat_of_lt' (by simpa using hx256)]
/-- A text as bytes. -/
def txL (s : List Nat) : List Nat := ub s.length ++ s
set_option maxHeartbeats 2000000 in
theorem refText_any (s : List Nat) (hs : WfT s) (hl : s.length ≤ 1000000) (w : World) : Calls Tryz.prog 22 #[.string (strB s)] w (Puts w.heap.size w (txL s)) := by
  obtain ⟨n, hn⟩ : ∃ n, n = s.length := ⟨_, rfl⟩
  have hsz : (strB s).size = n := by rw [strB_size, hn]
  have hnw : IntKind.u64.wrap (n : Int) = (n : Int) := by rw [IntKind.wrap_u64]; omega
  have HU := Lib.hid (refU_any n (by omega))
  have H10 : Hid ((ub n).length ≤ 10) := Lib.hid (ub10 (show n < 18446744073709551616 by omega))
  have HWS := Lib.hid hs
  have HN := Lib.hid hn
  have hnl : n ≤ 1000000 := by omega
  clear hs hn hl
  go_enter Tryz.func22, Tryz.ntmps22
  go_wp2_with (first
    | (go_at_call 53; refine (HU.out _).mono ?_; rintro e w2 hp; obtain ⟨A2, n2, c2, rfl, HO2, HB2, hn2⟩ := hp.at; obtain ⟨w3, C3, hcv, hby, hb3⟩ := conv_sb s HWS.out n HN.out w2; have HBY := Lib.hid hby; have HO3 := Lib.hid (HO2.out.keep hb3); have HB3 := Lib.hid (below_to HB2.out hb3); have hn10 : n2 ≤ 10 := (by have := H10.out; omega); clear hby hb3 hp hn2)
    | (refine wpList_append_by rfl (.tmp 8) (.tmp 10) rfl w.heap.size A2 n2 c2 (ub n) rfl HO3.out (some ⟨w2.heap.size, 0, none⟩) n C3 s rfl HN.out HBY.out (by omega) HB3.out.size ?_; intro A4 c4 w4 ho4 hg4 hr4; have HO4 := Lib.hid ho4; have HB4 := Lib.hid (HB3.out.grown hg4 HB3.out.size HO3.out.base); clear ho4 hg4 hr4))
  go_ret
  exact ⟨A4, _, c4, rfl, by unfold txL; rw [← HN.out]; exact HO4.out, HB4.out, HB4.out.size⟩
end Go.Proofs.YtpobfgokikfmbaaGreatDoor
