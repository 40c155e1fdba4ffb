/-
  Layer segment: the rows of a written segment.
-/
import Derived.Test.YtifabkbdiiolfaaGreatDoorYzK
import Derived.Test.YtifabkbdiiolfaaGreatDoorYyK
set_option linter.unusedSimpArgs false
set_option linter.unusedVariables false
set_option maxRecDepth 8000
namespace Go.Proofs.YtifabkbdiiolfaaGreatDoor
open Go.RowKit Go.WideShapes Col
def KLe (a b : ByteArray) : Prop := a.toList ≤ b.toList
theorem KLe.refl (a : ByteArray) : KLe a a := List.le_refl _
theorem KLe.trans {a b c : ByteArray} (h1 : KLe a b) (h2 : KLe b c) : KLe a c := List.le_trans h1 h2
theorem KLe.not {a b : ByteArray} (h : KLe a b) : Op.bytesLess b.toList a.toList = false := by
 rw [bytesLess_eq, decide_eq_false_iff_not]; exact List.not_lt.2 h
theorem KLe.gtr {a b : ByteArray} (h : KLe a b) : (!(Op.bytesLess a.toList b.toList || a.toList == b.toList)) = false := by
 rw [Bool.not_eq_false', Bool.or_eq_true, bytesLess_eq, decide_eq_true_eq, beq_iff_eq]
 by_cases h1 : a.toList < b.toList
 ·exact .inl h1
 ·exact .inr (List.le_antisymm h (List.not_lt.1 h1))
theorem minK_le (a b : ByteArray) : KLe (minK a b) a ∧ KLe (minK a b) b := by
 unfold minK
 split
 ·rename_i h
  rw [Bool.or_eq_true] at h
  rcases h with h | h
  ·rw [bytesLess_eq, decide_eq_true_eq] at h
   exact ⟨KLe.refl _, List.le_of_lt h⟩
  ·rw [beq_iff_eq] at h
   exact ⟨KLe.refl _, by unfold KLe; rw [h]; exact List.le_refl _⟩
 ·rename_i h
  refine ⟨?_, KLe.refl _⟩
  rw [Bool.or_eq_true, bytesLess_eq, decide_eq_true_eq] at h
  exact List.not_lt.1 fun h1 => h (.inl h1)
theorem maxK_le (a b : ByteArray) : KLe a (maxK a b) ∧ KLe b (maxK a b) := by
 unfold maxK
 split
 ·rename_i h
  rw [Bool.not_eq_true', bytesLess_eq, decide_eq_false_iff_not] at h
  exact ⟨KLe.refl _, List.not_lt.1 h⟩
 ·rename_i h
  rw [Bool.not_eq_true', bytesLess_eq, decide_eq_false_iff_not] at h
  exact ⟨List.le_of_lt (Classical.not_not.1 h), KLe.refl _⟩
theorem minI_le (a b : Int) : minI a b ≤ a ∧ minI a b ≤ b := by unfold minI; split <;> omega
theorem maxI_le (a b : Int) : a ≤ maxI a b ∧ b ≤ maxI a b := by unfold maxI; split <;> omega
theorem ckF_all : ∀ (r : List Ev) (c : Ck), (r.foldl ckF c).ta ≤ c.ta ∧ c.tz ≤ (r.foldl ckF c).tz ∧ KLe (r.foldl ckF c).ka c.ka ∧ KLe c.kz (r.foldl ckF c).kz ∧ ∀ x ∈ r, (r.foldl ckF c).ta ≤ x.time ∧ x.time ≤ (r.foldl ckF c).tz ∧ KLe (r.foldl ckF c).ka x.key ∧ KLe x.key (r.foldl ckF c).kz
 | [], c => ⟨Int.le_refl _, Int.le_refl _, KLe.refl _, KLe.refl _, fun x hx => by cases hx⟩
 | a :: r, c => by
  rw [List.foldl_cons]
  obtain ⟨h1, h2, h3, h4, h5⟩ := ckF_all r (ckF c a)
  have i1 := minI_le c.ta a.time
  have i2 := maxI_le c.tz a.time
  have k1 := minK_le c.ka a.key
  have k2 := maxK_le c.kz a.key
  have e1 : (ckF c a).ta = minI c.ta a.time := rfl
  have e2 : (ckF c a).tz = maxI c.tz a.time := rfl
  have e3 : (ckF c a).ka = minK c.ka a.key := rfl
  have e4 : (ckF c a).kz = maxK c.kz a.key := rfl
  rw [e1] at h1; rw [e2] at h2; rw [e3] at h3; rw [e4] at h4
  refine ⟨by omega, by omega, h3.trans k1.1, k2.1.trans h4, ?_⟩
  intro x hx
  rcases List.mem_cons.1 hx with e | e
  ·subst e; exact ⟨by omega, by omega, h3.trans k1.2, k2.2.trans h4⟩
  ·exact h5 x e
theorem ckOf_all (l : List Ev) (p : Nat) : ∀ x ∈ l, (ckOf l p).ta ≤ x.time ∧ x.time ≤ (ckOf l p).tz ∧ KLe (ckOf l p).ka x.key ∧ KLe x.key (ckOf l p).kz := (ckF_all l (ckS l p)).2.2.2.2
/-- An event of a chunk is within what is told of it. -/
def InCk (c : Ck) (x : Ev) : Prop := c.oa ≤ x.off ∧ x.off ≤ c.ob ∧ c.ta ≤ x.time ∧ x.time ≤ c.tz ∧ Op.bytesLess x.key.toList c.ka.toList = false ∧ (!(Op.bytesLess x.key.toList c.kz.toList || x.key.toList == c.kz.toList)) = false
theorem inCk_may {a b : Nat} {x y : Int} {c : Ck} {e : Ev} (h : InCk c e) (hw : wantB a b x y e = true) : mayB a b x y c = true := by
 obtain ⟨h1, h2, h3, h4, -, -⟩ := h
 unfold wantB at hw
 simp only [Bool.and_eq_true, decide_eq_true_eq] at hw
 unfold mayB maxI minI
 simp only [Bool.and_eq_true, decide_eq_true_eq]
 refine ⟨?_, ?_, ?_⟩
 ·split <;> omega
 ·split <;> omega
 ·split <;> split <;> omega
/-- All that a chunk of a written segment has is within what is told of it. -/
theorem seg_in {p : Int} {l : List Ev} (hck : chkL p none l = 0) (k : Nat) (c : Ck) (hc : (segCk l)[k]? = some c) :
  k < segN l ∧ c.rows = lnC l.length k ∧ stC l.length k = 64 * k ∧ ∀ j, j < c.rows → ∃ x, l[64 * k + j]? = some x ∧ InCk c x := by
 obtain ⟨hk, hc2⟩ := wrS_get l (segN l) k c hc
 have h64 : 64 * k < l.length := by unfold segN at hk; omega
 obtain ⟨a, ha⟩ : ∃ a, l[0]? = some a := ⟨_, List.getElem?_eq_getElem (by omega)⟩
 obtain ⟨e1, e2, e3, e4, e5⟩ := segCk_facts hck ha k hk (ahead l k)
 rw [← hc2] at e1 e2 e3 e4
 have hf := lnC_facts (len := l.length) (j := k) (by omega)
 refine ⟨hk, e1, e5, fun j hj => ?_⟩
 rw [e1] at hj
 rw [e5] at hf
 obtain ⟨x, hx⟩ : ∃ x, l[64 * k + j]? = some x := ⟨_, List.getElem?_eq_getElem (by omega)⟩
 have hm : x ∈ pcs l k := by
  refine List.mem_of_getElem? (i := j) ?_
  unfold pcs
  rw [List.getElem?_take, if_pos hj, List.getElem?_drop, e5]; exact hx
 obtain ⟨t1, t2, t3, t4⟩ := ckOf_all (pcs l k) (ahead l k) x hm
 rw [← hc2] at t1 t2 t3 t4
 have ho := chk_off0 hck ha _ _ hx
 exact ⟨x, hx, by omega, by omega, t1, t2, t3.not, t4.gtr⟩
end Go.Proofs.YtifabkbdiiolfaaGreatDoor

namespace Go.Proofs.YtifabkbdiiolfaaGreatDoor
open Go.RowKit Go.WideShapes Col
theorem form_can (x : Ev) (p : Int) : formB (canE x) p = formB x p := rfl
theorem want_can (a b : Nat) (x y : Int) (e : Ev) : wantB a b x y (canE e) = wantB a b x y e := rfl
theorem chkL_can (p : Int) : ∀ (l : List Ev) (o : Option Nat), chkL p o (l.map canE) = chkL p o l
 | [], _ => rfl
 | a :: r, o => by
  rw [List.map_cons]
  unfold chkL
  rw [form_can]
  have h := chkL_can p r (some a.off)
  rcases o with _ | y
  ·dsimp only; rw [show (canE a).off = a.off from rfl, h]
  ·dsimp only; rw [show (canE a).off = a.off from rfl, h]
theorem ckOf_can (l : List Ev) (p : Nat) : ckOf (l.map canE) p = ckOf l p := by
 have e : ckS (l.map canE) p = ckS l p := by
  rcases l with _ | ⟨a, r⟩
  ·rfl
  ·unfold ckS
   rw [List.map_cons]
   dsimp only
   have h : ((canE a :: r.map canE).getLast (by simp)) = canE ((a :: r).getLast (by simp)) := by
    rw [← List.getLast_map (f := canE) (l := a :: r) (by simp)]; rfl
   rw [h]
   simp only [List.length_cons, List.length_map]
   rfl
 unfold ckOf
 rw [e, List.foldl_map]
 rfl
theorem pcs_get {l : List Ev} {k j : Nat} {x : Ev} (hs : stC l.length k = 64 * k) (h : (pcs l k)[j]? = some x) : j < lnC l.length k ∧ l[64 * k + j]? = some x := by
 unfold pcs at h
 rw [List.getElem?_take] at h
 split at h
 ·rename_i hj
  rw [List.getElem?_drop, hs] at h
  exact ⟨hj, h⟩
 ·cases h
theorem stC_of {len k : Nat} (h : k < (len + 63) / 64) : stC len k = 64 * k := by unfold stC; rw [if_pos (by omega)]
theorem wrS_ext (l : List Ev) (i : Nat) : ∀ n, i < n → ∃ t, (wrS l (chP n)).1 = (wrS l (chP i)).1 ++ (pgE (pcs l i) ++ t)
 | 0, h => by omega
 | n + 1, h => by
  rw [chP_succ, wrS_snoc]
  dsimp only
  rcases Nat.lt_or_ge i n with h1 | h1
  ·obtain ⟨t, ht⟩ := wrS_ext l i n h1
   exact ⟨t ++ pgE (pcs l n), by rw [ht]; simp only [List.append_assoc]⟩
  ·obtain rfl : i = n := by omega
   exact ⟨[], by rw [List.append_nil]⟩
theorem seg_at (ps : Nat) (l : List Ev) (i : Nat) (h : i < segN l) : ∃ q tl, segB ps l = q ++ (Pg.lay 101 (evY (pcs l i)) ++ tl) ∧ q.length = ahead l i := by
 obtain ⟨t, ht⟩ := wrS_ext l i (segN l) h
 refine ⟨(wrS l (chP i)).1, t ++ Pg.lay 102 (footB ps (segCk l)) ++ Pg.lay 116 (Pg.four (segPg l).length), ?_, rfl⟩
 unfold segB
 rw [show segPg l = (wrS l (chP (segN l))).1 from rfl, ht]
 unfold pgE
 simp only [List.append_assoc]
theorem endB_seg {p : Int} {l : List Ev} (hck : chkL p none l = 0) (i : Nat) (h : i < segN l) : endB (segCk l) (segPg l).length i = ahead l (i + 1) := by
 have h64 : 64 * i < l.length := by unfold segN at h; omega
 obtain ⟨a, ha⟩ : ∃ a, l[0]? = some a := ⟨_, List.getElem?_eq_getElem (by omega)⟩
 unfold endB
 rcases hc : (segCk l)[i + 1]? with _ | c
 ·have h1 : segN l = i + 1 := by
   rw [List.getElem?_eq_none_iff, segCk_len] at hc; omega
  show (segPg l).length = _
  unfold ahead segPg
  rw [h1]
 ·obtain ⟨hk, e⟩ := wrS_get l (segN l) (i + 1) c hc
  have h2 := (segCk_facts hck ha (i + 1) hk (ahead l (i + 1))).2.1
  rw [← e] at h2
  exact h2
theorem pcs_chk {p : Int} {l : List Ev} (hck : chkL p none l = 0) (i : Nat) (h : i < segN l) : chkL p none (pcs l i) = 0 := by
 have h64 : 64 * i < l.length := by unfold segN at h; omega
 obtain ⟨a, ha⟩ : ∃ a, l[0]? = some a := ⟨_, List.getElem?_eq_getElem (by omega)⟩
 refine chk_of p (pcs l i) none (a.off + 64 * i) (fun j x hx => ?_) (fun y hy => by cases hy)
 obtain ⟨-, h1⟩ := pcs_get (stC_of h) hx
 have h2 := chk_off0 hck ha _ _ h1
 exact ⟨by omega, chk_form _ _ hck x (List.mem_of_getElem? h1)⟩
theorem take_pcs {l : List Ev} {i : Nat} (h : i < segN l) : l.take (64 * (i + 1)) = l.take (64 * i) ++ pcs l i := by
 unfold pcs
 rw [stC_of h, show 64 * (i + 1) = 64 * i + 64 by omega, List.take_add]
 congr 1
 unfold lnC
 rw [stC_of h, List.take_eq_take_iff, List.length_drop]
 omega
/-- What a scan of the first chunks has told; how many chunks it has read. -/
def scO (a b : Nat) (x y : Int) (l : List Ev) (k : Nat) : List Ev := ((l.take (64 * k)).map canE).filter (wantB a b x y)
def scN (a b : Nat) (x y : Int) (l : List Ev) (k : Nat) : Nat := (((segCk l).take k).filter (mayB a b x y)).length
theorem scO_succ (a b : Nat) (x y : Int) {l : List Ev} {k : Nat} (h : k < segN l) : scO a b x y l (k + 1) = scO a b x y l k ++ ((pcs l k).map canE).filter (wantB a b x y) := by
 unfold scO; rw [take_pcs h, List.map_append, List.filter_append]
theorem scO_skip {p : Int} {a b : Nat} {x y : Int} {l : List Ev} (hck : chkL p none l = 0) {k : Nat} {c : Ck} (hc : (segCk l)[k]? = some c) (hm : mayB a b x y c = false) : scO a b x y l (k + 1) = scO a b x y l k := by
 obtain ⟨h, hr, hs, hin⟩ := seg_in hck k c hc
 rw [scO_succ a b x y h]
 have e : ((pcs l k).map canE).filter (wantB a b x y) = [] := by
  rw [List.filter_eq_nil_iff]
  intro z hz hw
  obtain ⟨e, he, rfl⟩ := List.mem_map.1 hz
  rw [want_can] at hw
  obtain ⟨j, hj⟩ := List.getElem?_of_mem he
  obtain ⟨hj1, hj2⟩ := pcs_get hs hj
  obtain ⟨e2, h3, h4⟩ := hin j (by omega)
  rw [hj2] at h3; injection h3 with h3; subst h3
  rw [inCk_may h4 hw] at hm; cases hm
 rw [e, List.append_nil]
theorem scN_succ (a b : Nat) (x y : Int) {l : List Ev} {k : Nat} {c : Ck} (hc : (segCk l)[k]? = some c) : scN a b x y l (k + 1) = scN a b x y l k + (if mayB a b x y c = true then 1 else 0) := by
 unfold scN
 rw [List.take_add_one, hc, Option.toList_some, List.filter_append, List.length_append]
 congr 1
 rcases h : mayB a b x y c with _ | _ <;> simp [List.filter_cons, h]
theorem scO_len (a b : Nat) (x y : Int) (l : List Ev) (k : Nat) : (scO a b x y l k).length ≤ l.length := by
 unfold scO
 refine Nat.le_trans (List.length_filter_le _ _) ?_
 rw [List.length_map, List.length_take]; omega
theorem scN_le (a b : Nat) (x y : Int) (l : List Ev) (k : Nat) : scN a b x y l k ≤ k := by
 unfold scN
 refine Nat.le_trans (List.length_filter_le _ _) ?_
 rw [List.length_take]; omega
theorem filter_snoc {q : Ev → Bool} (l : List Ev) (x : Ev) (j : Nat) (h : l[j]? = some x) : (l.take (j + 1)).filter q = (l.take j).filter q ++ (if q x = true then [x] else []) := by
 rw [List.take_add_one, h, Option.toList_some, List.filter_append]
 congr 1
 rcases h : q x with _ | _ <;> simp [List.filter_cons, h]
end Go.Proofs.YtifabkbdiiolfaaGreatDoor

namespace Go.Proofs.YtifabkbdiiolfaaGreatDoor
open Go.RowKit Go.WideShapes Col
theorem wpList_append_evS {w : World} {ops : Array Oper} {rest : List Oper} {o : Oper} {ac : Act} {Q : Exit → Act → World → Prop} (hgd : o.guard = none) (s x : Operand)
  (ho : o.op = .call { callee := .builtin .append, args := #[s, x], argTypes := #[22, 22] })
  (B : Nat) (A : Option Addr) (n cap : Nat) (l : List Ev) (hs : ac.eval s = .slice A n cap) (hown : OwnE w B A n cap l) (a : Option Addr) (m c : Nat) (l2 : List Ev) (hx : ac.eval x = .slice a m c) (hm : m = l2.length) (h2 : EvAt w a l2) (hnil : a = none → c = 0)
  (N : Nat) (hN : N = n + m) (hbytes : n + m ≤ 1000) (hbase : B ≤ w.heap.size)
  (h : ∀ A' cap' w', OwnE w' B A' N cap' (l ++ l2) → N ≤ cap' → cap' ≤ maxLen → (A' = none → cap' = 0) → Below B w w' → w.grownBy w' ((Value.slice A n cap).ownBlock) → (∀ k, A'.map (·.block) = some k → A.map (·.block) = some k ∨ w.heap.size ≤ k) → wpList Tryz.prog ops Q rest (ac.put o.dst (.slice A' N cap')) w') : wpList Tryz.prog ops Q (o :: rest) ac w := by
 subst hN
 obtain ⟨i0, hi, hz0, hz1, hz2⟩ := info_parts infoEv
 rcases a with _ | ad
 ·obtain rfl := hnil rfl
  have hl2 : l2 = [] := by
   rcases l2 with _ | ⟨x, r⟩
   ·rfl
   ·obtain ⟨g, off, e, -⟩ := h2 0 (.int .u64 (x.off : Int)) rfl; cases e
  subst hl2
  have h0 : m = 0 := hm
  subst h0
  obtain ⟨A1, c1, e1, e2, e3, e4⟩ := ro_slice hown
  injection e1 with b1 b2 b3
  subst b1; subst b3
  refine wpList_append_own_none hgd s x 22 ho B 45 i0 5 Tryz.underlying22 hi (.slice A n cap) n (evs l) hs hown hx ?_
  exact h A cap w (by rw [List.append_nil]; exact hown) e2 e3 e4 (Below.refl _ _) (World.grownBy.refl _ _) (fun k hk => .inl hk)
 ·refine wpList_append_own_at w hgd s x 22 ho B 45 i0 _ 5 48 Tryz.underlying22 hi hz0 hz1 hz2 rfl (by decide) (.slice A n cap) n (evs l) hs hown ad m c (evs l2) hx (by rw [evs_length, hm]) (fun j u hu => by
   obtain ⟨g', off', e, -, hc⟩ := h2 j u hu
   injection e with e; subst e
   rw [Addr.add_lit]; exact hc) (evs_one l2) (by unfold maxLen; omega) (by omega) hbase ?_
  intro v' w2 hown2 hgr _ h6
  have e : evs l ++ evs l2 = evs (l ++ l2) := by unfold evs; rw [List.flatMap_append]
  rw [e] at hown2
  obtain ⟨A1, c1, rfl, e2, e3, e4⟩ := ro_slice hown2
  refine h A1 c1 w2 hown2 e2 e3 e4 ((Below.refl _ w).grown hgr hbase (ro_base hown)) hgr (fun k hk => ?_)
  rcases A1 with _ | a1
  ·cases hk
  ·have hk : a1.block = k := by simpa using hk
   subst hk
   rcases h6 with h6 | h6
   ·left
    rcases A with _ | a
    ·cases h6
    ·have h6 : a1.block = a.block := by simpa [Value.ownBlock] using h6
     rw [h6]; rfl
   ·right
    have h6 : a1.block = w.heap.size := by simpa [Value.ownBlock] using h6
    omega
theorem uFl : Tryz.prog.underlying 26 = some (.struct (Tryz.prog.fieldsOf 26)) := by kernel_rfl
theorem results_tmp3V {fn : Func} {t u v : Tmp} (h : fn.results = #[.tmp t, .tmp u, .tmp v]) (tmps : Array Value) (P : Program) (w : World) :
  (results fn tmps).run P w = .ok (.tuple #[tmps.getD t undef, tmps.getD u undef, tmps.getD v undef]) w := by simp [results, h]
theorem ownE_new {w : World} {B n cap L : Nat} {A : Option Addr} {l : List Ev} (h : OwnE w B A n cap l) (hL : w.heap.size ≤ L) : ¬ MineK A L := fun hm => by
 unfold MineK at hm
 rcases A with _ | a
 ·cases hm
 ·have e : a.block = L := by simpa using hm
  have := (World.ownsRow.lt h L (by rw [← e]; simp [Value.ownBlock])).2
  omega
/-- What is read of a chunk of a written segment. -/
theorem seg_rows (bs ps : Nat) (M : List Ev) (h0 : 0 < M.length) (h9 : M.length ≤ 900) (hck : Hid (chkL (ps : Int) none M = 0)) (hfin : Hid (∀ x ∈ M, FineE x)) (hby : Hid (∀ x ∈ segB ps M, x < 256)) (hlen : (segB ps M).length ≤ 1000000)
  (A : Option Addr) (n c : Nat) (gc oc n2 c2 : Nat) (hn : n = (segB ps M).length) (hnc : n ≤ c) (hcm : c ≤ maxLen) (hn2 : n2 = (segCk M).length) (w : World) (HG : Hid (HalvesAt w)) (HA : Hid (ByAt w A (segB ps M)))
  (HSG : Hid (w.heap[bs]? = some (.cells #[.slice A n c, .int .i64 (ps : Int), .slice (some ⟨gc, oc, none⟩) n2 c2, .int .i64 ((segPg M).length : Int)] 90 (0, 0)))) (HC : Hid (CkAt w (some ⟨gc, oc, none⟩) (segCk M)))
  (i : Nat) (ck : Ck) (hc : (segCk M)[i]? = some ck) (v : World) (hb : Below w.heap.size w v) :
  Calls Tryz.prog 50 #[.pointer (some ⟨bs, 0, none⟩), .int .i64 (i : Int)] v fun e w' => ∃ L m, e = .returned (.tuple #[.slice (some ⟨L, 0, none⟩) m m, .int .i64 0]) ∧ m = ((pcs M i).map canE).length ∧ EvAt w' (some ⟨L, 0, none⟩) ((pcs M i).map canE) ∧ Below v.heap.size v w' ∧ v.heap.size ≤ L := by
 obtain ⟨hi, hck2⟩ := wrS_get M (segN M) i ck hc
 obtain ⟨q, tl, hseg, hq⟩ := seg_at ps M i hi
 have h64 : 64 * i < M.length := by unfold segN at hi; omega
 obtain ⟨a, ha⟩ : ∃ a, M[0]? = some a := ⟨_, List.getElem?_eq_getElem h0⟩
 have hpl : ck.pl = ahead M i := by rw [hck2]; exact (segCk_facts hck.out ha i hi (ahead M i)).2.1
 have hlp := pcs_len (l := M) (j := i) h0
 have hlf := lnC_facts (len := M.length) (j := i) h0
 have hsN : segN M ≤ 1000 := by unfold segN; omega
 have hcl := segCk_len M
 have hfp : ∀ x ∈ pcs M i, FineE x := fun x hx => hfin.out x (pcs_mem hx)
 refine rowsOf_any bs ps (segPg M).length A n c gc oc n2 c2 (segCk M) (Lib.hid hn2) (by omega) i ck (Lib.hid hc) ((pcs M i).map canE) (by rw [List.length_map]; omega) (by rw [List.length_map]; omega) v (Lib.hid (row_keepS HSG.out hb)) (Lib.hid (HC.out.keep hb)) (Lib.hid fun w1 hb1 => ?_) (Lib.hid (by rw [chkL_can]; exact pcs_chk hck.out i hi)) (Lib.hid (by rw [ckOf_can, hpl]; exact hck2.symm))
 have hb2 : Below w.heap.size w w1 := below_to hb hb1
 have hw : ∀ x ∈ evY (pcs M i), x < 256 := fun x hx => hby.out x (by
  rw [hseg]
  refine List.mem_append_right _ (List.mem_append_left _ ?_)
  unfold Pg.lay
  rw [Pg.front_four]
  exact List.mem_append_left _ (List.mem_append_right _ (List.mem_cons_of_mem _ hx)))
 refine (evRead_mid A n c ck.pl q tl (pcs M i) (ps : Int) (by omega) (Lib.hid hfp) (chk_form _ _ (pcs_chk hck.out i hi)) (Lib.hid (by rw [hpl]; exact hq.symm)) hw (Lib.hid (by rw [← hseg]; exact hn)) hnc hcm w1 (Lib.hid (by rw [← hseg]; exact HA.out.keep hb2)) (Lib.hid (HG.out.keep hb2))).mono ?_
 rintro e w' ⟨L, rfl, h1, h2, h3⟩
 refine ⟨L, (pcs M i).length, ?_, by rw [List.length_map], h1, h2, h3⟩
 have hend : ((endB (segCk M) (segPg M).length i : Nat) : Int) = (ck.pl : Int) + 5 + ((evY (pcs M i)).length : Int) + 4 := by
  rw [endB_seg hck.out i hi, ahead_succ, hpl]; omega
 rw [hend]
end Go.Proofs.YtifabkbdiiolfaaGreatDoor
