/-
  Layer column: texts as bytes, and back: plain facts.
-/
import Derived.Sort.Walk0
import Derived.Test.YtjldamkmdkaiiaaGreatDoorTfK
import Derived.Test.YtjldamkmdkaiiaaGreatDoorTgK
import Derived.Lib.ConvBytes
import Derived.Test.YtjldamkmdkaiiaaGreatDoorDaK
import Derived.Lib.AppendStr
set_option linter.unusedSimpArgs false
set_option linter.unusedVariables false
set_option maxRecDepth 8000
namespace Go.Proofs.YtjldamkmdkaiiaaGreatDoor
open Go.RowKit Go.WideShapes Col
theorem tls_dec (s t : List Nat) : tls s t = decide ((strB s).toList < (strB t).toList) := bytesLess_eq _ _
theorem tls_irr (s : List Nat) : tls s s = false := by rw [tls_dec, decide_eq_false_iff_not]; exact List.lt_irrefl _
theorem tls_tr {s t u : List Nat} (h1 : tls s t = true) (h2 : tls t u = true) : tls s u = true := by
 rw [tls_dec, decide_eq_true_eq] at h1 h2 ⊢
 exact List.lt_trans h1 h2
theorem tls_asy {s t : List Nat} (h : tls s t = true) : tls t s = false := by
 rcases h2 : tls t s with _ | _
 ·rfl
 ·have := tls_tr h h2; rw [tls_irr] at this; cases this
theorem tls_tot {s t : List Nat} (hs : WfT s) (ht : WfT t) (h1 : tls s t = false) (h2 : tls t s = false) : s = t := by
 rw [tls_dec, decide_eq_false_iff_not] at h1 h2
 have e : (strB s).toList = (strB t).toList := List.le_antisymm (List.not_lt.1 h2) (List.not_lt.1 h1)
 refine strB_inj hs ht ?_
 rw [Lib.toList_data, Lib.toList_data] at e
 exact ByteArray.ext (Array.ext' e)
def Rise (l : List (List Nat)) : Prop := l.Pairwise fun s t => tls s t = true
theorem rise_ext {l m : List (List Nat)} (hl : Rise l) (hm : Rise m) (h : ∀ y, y ∈ l ↔ y ∈ m) : l = m := by
 induction l generalizing m with
 | nil =>
  rcases m with _ | ⟨b, m⟩
  ·rfl
  ·have := (h b).2 (by simp); cases this
 | cons a l ih =>
  rcases m with _ | ⟨b, m⟩
  ·have := (h a).1 (by simp); cases this
  ·rw [Rise, List.pairwise_cons] at hl hm
   have hab : a = b := by
    rcases List.mem_cons.1 ((h a).1 (by simp)) with e | e
    ·exact e
    ·rcases List.mem_cons.1 ((h b).2 (by simp)) with e2 | e2
     ·exact e2.symm
     ·have h1 := hm.1 a e; have h2 := hl.1 b e2
      have := tls_tr h1 h2; rw [tls_irr] at this; cases this
   subst hab
   rw [ih hl.2 hm.2 fun y => ?_]
   constructor
   ·intro hy
    rcases List.mem_cons.1 ((h y).1 (by simp [hy])) with e | e
    ·subst e; have := hl.1 y hy; rw [tls_irr] at this; cases this
    ·exact e
   ·intro hy
    rcases List.mem_cons.1 ((h y).2 (by simp [hy])) with e | e
    ·subst e; have := hm.1 y hy; rw [tls_irr] at this; cases this
    ·exact e
def insU (x : List Nat) (all : List (List Nat)) : List (List Nat) := all.filter (fun a => tls a x) ++ x :: all.filter (fun a => tls x a)
theorem insU_rise {x : List Nat} {all : List (List Nat)} (h : Rise all) : Rise (insU x all) := by
 unfold insU
 refine List.pairwise_append.2 ⟨h.filter _, List.pairwise_cons.2 ⟨fun a ha => (List.mem_filter.1 ha).2, h.filter _⟩, fun a ha b hb => ?_⟩
 have h1 := (List.mem_filter.1 ha).2
 rcases List.mem_cons.1 hb with e | e
 ·subst e; exact h1
 ·exact tls_tr h1 (List.mem_filter.1 e).2
theorem insU_mem {x y : List Nat} {all : List (List Nat)} (hx : WfT x) (hw : ∀ a ∈ all, WfT a) : y ∈ insU x all ↔ y = x ∨ y ∈ all := by
 unfold insU
 rw [List.mem_append, List.mem_cons, List.mem_filter, List.mem_filter]
 constructor
 ·rintro (h | h | h)
  ·exact .inr h.1
  ·exact .inl h
  ·exact .inr h.1
 ·rintro (h | h)
  ·exact .inr (.inl h)
  ·rcases h1 : tls y x with _ | _
   ·rcases h2 : tls x y with _ | _
    ·exact .inr (.inl (tls_tot (hw y h) hx h1 h2))
    ·exact .inr (.inr ⟨h, rfl⟩)
   ·exact .inl ⟨h, rfl⟩
theorem snoc_ind {α : Type} {Q : List α → Prop} (nil : Q []) (append_singleton : ∀ (l : List α) (x : α), Q l → Q (l ++ [x])) (l : List α) : Q l := by
 have h : ∀ m : List α, Q m.reverse := by
  intro m
  induction m with
  | nil => exact nil
  | cons a r ih => rw [List.reverse_cons]; exact append_singleton _ a ih
 have := h l.reverse
 rwa [List.reverse_reverse] at this
def uqL (l : List (List Nat)) : List (List Nat) := l.foldl (fun all x => insU x all) []
theorem uqL_snoc (l : List (List Nat)) (x : List Nat) : uqL (l ++ [x]) = insU x (uqL l) := by unfold uqL; rw [List.foldl_append]; rfl
theorem uqL_facts (l : List (List Nat)) (hw : ∀ x ∈ l, WfT x) : Rise (uqL l) ∧ (∀ y, y ∈ uqL l ↔ y ∈ l) := by
 induction l using snoc_ind with
 | nil => exact ⟨List.Pairwise.nil, fun y => Iff.rfl⟩
 | append_singleton l x ih =>
  obtain ⟨h1, h2⟩ := ih fun y hy => hw y (by simp [hy])
  rw [uqL_snoc]
  refine ⟨insU_rise h1, fun y => ?_⟩
  rw [insU_mem (hw x (by simp)) (fun a ha => hw a (by simp [(h2 a).1 ha])), List.mem_append, List.mem_singleton, h2]
  constructor <;> (rintro (h | h) <;> simp [h])
theorem uqL_wf {l : List (List Nat)} (hw : ∀ x ∈ l, WfT x) : ∀ x ∈ uqL l, WfT x := fun x hx => hw x (((uqL_facts l hw).2 x).1 hx)
theorem uqL_len (l : List (List Nat)) : (uqL l).length ≤ l.length := by
 induction l using snoc_ind with
 | nil => exact Nat.le_refl _
 | append_singleton l x ih =>
  rw [uqL_snoc, List.length_append, List.length_singleton]
  unfold insU
  rw [List.length_append, List.length_cons]
  have : ((uqL l).filter (fun a => tls a x)).length + ((uqL l).filter (fun a => tls x a)).length ≤ (uqL l).length := by
   generalize uqL l = m
   induction m with
   | nil => exact Nat.le_refl _
   | cons a m ih2 =>
    rw [List.filter_cons, List.filter_cons]
    rcases h1 : tls a x with _ | _
    ·rcases h2 : tls x a with _ | _ <;> simp <;> omega
    ·rw [tls_asy h1]; simp; omega
  omega
namespace Col
def rTL (q : List Nat) : Option (List (List Nat)) := match rT q with
 | some (us, []) => some us
 | _ => none
theorem rTL_some {q : List Nat} {us : List (List Nat)} (h : rT q = some (us, [])) : rTL q = some us := by unfold rTL; rw [h]
theorem rTL_none {q : List Nat} (h : rT q = none) : rTL q = none := by unfold rTL; rw [h]
theorem rTL_left {q r : List Nat} {us : List (List Nat)} (h : rT q = some (us, r)) (hr : r ≠ []) : rTL q = none := by
 unfold rTL; rw [h]
 rcases r with _ | ⟨x, r⟩
 ·exact (hr rfl).elim
 ·rfl
end Col
def RdTA (q : List Nat) (cl B : Nat) (b : Bool) (w : World) : Prop := match b with
 | true => ∃ L n us, rTL q = some us ∧ n = us.length ∧ w.heap[cl]? = some (.cells #[.slice (some ⟨L, 0, none⟩) n n] 37 (0, 0)) ∧ RowT w L us ∧ B ≤ L
 | false => rTL q = none
theorem RdTA.keep {q : List Nat} {cl B B' g : Nat} {b : Bool} {w w' : World} (h : RdTA q cl B b w) (hk : Kept (Only g) w w') (h1 : cl ≠ g) (h2 : g < B) (hB : B' ≤ B) : RdTA q cl B' b w' := by
 cases b with
 | false => exact h
 | true =>
  obtain ⟨L, n, us, e1, e2, hrow, hrf, hl⟩ := h
  exact ⟨L, n, us, e1, e2, hk.heap hrow fun e => h1 e, hrf.keep hk (fun e => by have e : L = g := e; omega), by omega⟩
theorem rdta_no {q : List Nat} {cl B : Nat} {b : Bool} {w : World} (h : rTL q = none) (hr : RdTA q cl B b w) : b = false := by
 rcases b with _ | _
 ·rfl
 ·obtain ⟨L, n, us, e1, -⟩ := hr
  rw [h] at e1; cases e1
theorem rdta_yes {q : List Nat} {us : List (List Nat)} {cl B : Nat} {b : Bool} {w : World} (h : rTL q = some us) (hr : RdTA q cl B b w) : b = true := by
 rcases b with _ | _
 ·have hr : rTL q = none := hr
  rw [h] at hr; cases hr
 ·rfl
set_option maxHeartbeats 2000000 in
theorem listFnT_any (g bf cl : Nat) (q : List Nat) (hql : q.length ≤ 1099511627776) (w : World) (HR : Hid (Rd w g q)) (Hf : Hid (w.heap[bf]? = some (.cells #[.func (.func 142) #[] #[]] 188 (0, 0)))) (Hc : Hid (w.heap[cl]? = some (.cells #[.slice none 0 0] 37 (0, 0)))) (h1 : cl < g) (h2 : bf < g) :
  Calls Tryz.prog 178 #[.pointer (some ⟨g, 0, none⟩), .pointer (some ⟨bf, 0, none⟩), .pointer (some ⟨cl, 0, none⟩)] w (Tried g (fun k => k = cl) (RdTA q cl (g + 1)) w) := by
 have hc : w.cell? ⟨bf, 0, none⟩ = some (.func (.func 142) #[] #[]) := by rw [cell_of_row _ _ _ _ _ _ Hf.out]; rfl
 have HI := Lib.hid (readTexts_any g q w (Lib.hid ⟨HR.out, hql⟩))
 have hgl := HR.out.glt
 rcases ho : rT q with _ | ⟨us, r⟩
 ·have HO := Lib.hid ho
  clear ho
  go_enter Tryz.func178, Tryz.ntmps178
  go_wp2_with (go_at_call 142; refine (HI.out).mono ?_; intro e w3 h8; rw [HO.out] at h8; obtain ⟨rfl, h1, h2⟩ := h8)
  exact ⟨rfl, h2.mono fun k hk => .inl (.inr hk), .inr ⟨rfl, h1, rTL_none HO.out⟩⟩
 ·have HO := Lib.hid ho
  clear ho
  go_enter Tryz.func178, Tryz.ntmps178
  go_wp2_with (go_at_call 142; refine (HI.out).mono ?_; intro e w3 h8; rw [HO.out] at h8; obtain ⟨L, n, rfl, hn, hL, hrf, hrd, hk, -⟩ := h8; have HN := Lib.hid hn; have HL := Lib.hid hL; have HRF := Lib.hid hrf; have HRD := Lib.hid hrd; have HK := Lib.hid hk; have hrow := hk.heap Hc.out (fun e => by have e : cl = g := e; omega); have c3 : w3.cell? ⟨cl, 0, none⟩ = some (.slice none 0 0) := (by rw [cell_of_row _ _ _ _ _ _ hrow]; rfl); have f3 : w3.frozen? ⟨cl, 0, none⟩ = false := row_frozen hrow 0; have HROW := Lib.hid hrow; clear hn hL hrf hrd hk hrow)
  have hk : Kept (fun k => k = cl) w3 (w3.setCell ⟨cl, 0, none⟩ (.slice (some ⟨L, 0, none⟩) n n)) := (Kept.refl _ _).setCell _ _ (.inl rfl)
  have hrow2 : (w3.setCell ⟨cl, 0, none⟩ (.slice (some ⟨L, 0, none⟩) n n)).heap[cl]? = some (.cells #[.slice (some ⟨L, 0, none⟩) n n] 37 (0, 0)) := by
   have := HROW.out; rw [World.setCell]; simp [Array.getElem?_modify, this]
  have hkk : Kept (fun k => k = cl ∨ k = g) w (w3.setCell ⟨cl, 0, none⟩ (.slice (some ⟨L, 0, none⟩) n n)) := (HK.out.mono fun k hk => .inl (.inr hk)).setCell _ _ (.inl (.inl rfl))
  have hL := HL.out
  refine bodyPost_end (results_none rfl _ _ _) rfl ⟨hkk, .inl ⟨r, rfl, HRD.out.1.high' hk (fun k hk => by have hk : k = cl := hk; omega) (fun A C h => off_slice h.bytes HROW.out), ?_⟩⟩
  by_cases hr : r = []
  ·subst hr
   exact ⟨L, n, us, rTL_some HO.out, HN.out, hrow2, HRF.out.keep hk (fun e => by have e : L = cl := e; omega), by omega⟩
  ·have : decide (r = []) = false := by simpa using hr
   rw [this]
   exact rTL_left HO.out hr
def RTEnds (o : Option (List (List Nat))) (w : World) (e : Ending) (w' : World) : Prop := match o with
 | some us => (∃ L n, e = .returned (.tuple #[.slice (some ⟨L, 0, none⟩) n n, .int .i64 0]) ∧ n = us.length ∧ RowT w' L us) ∧ Below w.heap.size w w'
 | none => e = .returned (.tuple #[.slice none 0 0, .int .i64 3]) ∧ Below w.heap.size w w'
set_option maxHeartbeats 2000000 in
theorem readListT_any (A : Option Addr) (C : Nat) (q : List Nat) (n : Nat) (hn : Hid (n = q.length)) (hn4 : n ≤ 1099511627776) (hC : n ≤ C) (hC' : C ≤ maxLen) (w : World) (HA : Hid (ByAt w A q)) :
  Calls Tryz.prog 141 #[.slice A n C, .func (.func 142) #[] #[]] w (RTEnds (rTL q) w) := by
 obtain ⟨bf, w1, hbf, hw1, hrow1, hb1, hbf1⟩ := alloc_pt w (.func (.func 142) #[] #[]) 188
 obtain ⟨cl, w2, hcl, hw2, hrow2, hb2, hcl2⟩ := alloc_pt w1 (.slice none 0 0) 37
 have HW : Hid ((w.alloc (.cells #[.func (.func 142) #[] #[]] 188)).alloc (.cells #[.slice none 0 0] 37) = w2) := Lib.hid (by rw [hw2, hw1])
 have hsz : w1.heap.size = w.heap.size + 1 := by rw [hw1]; simp
 have HBF := Lib.hid hbf; have HCL : Hid (cl = w.heap.size + 1) := Lib.hid (by rw [hcl, hsz])
 have HB2 : Hid (Below w.heap.size w w2) := Lib.hid (below_to hb1 hb2)
 have hrf2 := (Kept.of_below (S := fun _ => False) hb2).heap hrow1 fun e => e
 have ht := try_any 178 #[] #[.pointer (some ⟨bf, 0, none⟩), .pointer (some ⟨cl, 0, none⟩)] A C q n hn hC hC' w2 (Lib.hid (HA.out.keep HB2.out)) (fun k => k = cl) (fun k hk => by have hk : k = cl := hk; omega)
  (fun g => RdTA q cl (g + 1)) (RdTA q cl w2.heap.size) (fun g b v2 v3 hg h hk => h.keep hk (by omega) (Nat.lt_succ_self _) (by omega))
  (fun g v1 hg hr hb => listFnT_any g bf cl q (by rw [← hn.out]; exact hn4) v1 (Lib.hid hr) (Lib.hid ((Kept.of_below (S := fun _ => False) hb).heap hrf2 fun e => e)) (Lib.hid ((Kept.of_below (S := fun _ => False) hb).heap hrow2 fun e => e)) (by omega) (by omega))
  (fun _ _ => by first | rfl | kernel_rfl)
 have HT := Lib.hid ht
 have HR2 := Lib.hid hrow2
 clear ht hbf hw1 hrow1 hb1 hcl hw2 hrow2 hb2 hrf2 hbf1
 go_enter Tryz.func141, Tryz.ntmps141
 go_upto_region 2 with fail
 have e1 : w.heap.size = bf := HBF.out.symm
 have e2 : w.heap.size + 1 = cl := HCL.out.symm
 have hx : ∀ (w3 : World), Kept (fun k => k = cl) w2 w3 → Below w.heap.size w w3 := fun w3 hk => HB2.out.trans (hk.below (B := w.heap.size) (by omega) fun k hk => by have hk : k = cl := hk; omega)
 have HX := Lib.hid hx
 clear hx
 rw [HW.out, e2, e1]
 clear e1 e2
 rcases ho : rTL q with _ | us
 ·have HO := Lib.hid ho
  clear ho
  go_wp2_with (go_at_call 90; (with_reducible refine (HT.out).mono ?_); rintro e w3 ⟨b, rfl, hr, hk⟩; obtain rfl := rdta_no HO.out hr; have HB3 := Lib.hid (HX.out w3 hk); clear hr hk)
  go_ret2
  rw [HO.out]
  exact ⟨rfl, HB3.out⟩
 ·have HO := Lib.hid ho
  clear ho
  go_wp2_with (go_at_call 90; (with_reducible refine (HT.out).mono ?_); rintro e w3 ⟨b, rfl, hr, hk⟩; obtain rfl := rdta_yes HO.out hr; have HB3 := Lib.hid (HX.out w3 hk); obtain ⟨L, n9, us9, e9, h8, hrow9, hrf9, hl9⟩ := hr; rw [HO.out] at e9; injection e9 with e9; subst e9; have HN9 := Lib.hid h8; have HRF := Lib.hid hrf9; have c9c : w3.cell? ⟨cl, 0, none⟩ = some (.slice (some ⟨L, 0, none⟩) n9 n9) := (by rw [cell_of_row _ _ _ _ _ _ hrow9]; rfl); clear hk hrow9 hrf9 h8 hl9)
  go_ret2
  rw [HO.out]
  exact ⟨⟨L, n9, rfl, HN9.out, HRF.out⟩, HB3.out⟩
set_option maxHeartbeats 2000000 in
theorem readTextsC_any (A : Option Addr) (C : Nat) (q : List Nat) (n : Nat) (hn : Hid (n = q.length)) (hn4 : n ≤ 1099511627776) (hC : n ≤ C) (hC' : C ≤ maxLen) (w : World) (HA : Hid (ByAt w A q)) :
  Calls Tryz.prog 118 #[.slice A n C] w (RTEnds (rTL q) w) := by
 have HT := Lib.hid (readListT_any A C q n hn hn4 hC hC' w HA)
 rcases ho : rTL q with _ | l
 ·have HO := Lib.hid ho
  rw [ho] at HT
  clear ho
  go_enter Tryz.func118, Tryz.ntmps118
  go_wp2_with (go_at_call 141; (with_reducible refine (HT.out).mono ?_); rintro e w3 ⟨rfl, hb⟩; have HB := Lib.hid hb; clear hb)
  go_ret2
  exact ⟨rfl, HB.out⟩
 ·have HO := Lib.hid ho
  rw [ho] at HT
  clear ho
  go_enter Tryz.func118, Tryz.ntmps118
  go_wp2_with (go_at_call 141; (with_reducible refine (HT.out).mono ?_); rintro e w3 ⟨⟨L, n9, rfl, h8, ho⟩, hb⟩; have HB := Lib.hid hb; have HOW := Lib.hid ho; have HN := Lib.hid h8; clear hb ho h8)
  go_ret2
  exact ⟨⟨L, n9, rfl, HN.out, HOW.out⟩, HB.out⟩
theorem conv_sb (s : List Nat) (hs : WfT s) (n : Nat) (hn : n = s.length) (w : World) : ∃ (w' : World) (C : Nat), (convert 9 32 (.string (strB s))).run Tryz.prog w = .ok (.slice (some ⟨w.heap.size, 0, none⟩) n C) w' ∧ ByAt w' (some ⟨w.heap.size, 0, none⟩) s ∧ Below w.heap.size w w' := by
 have h := Go.Lib.run_convert_string_bytes w 9 32 5 (strB s) Tryz.underlying9 Tryz.underlying32 Tryz.underlying5
 rw [show (strB s).size = n by rw [strB_size, hn]] at h
 refine ⟨_, _, h, fun k x hx => ?_, ⟨rfl, rfl, rfl, by rw [Go.Lib.bytesWorld_size]; omega, fun k hk => Go.Lib.bytesWorld_at_old _ _ _ k hk⟩⟩
 ·have hx256 := hs x (List.mem_of_getElem? hx)
  refine ⟨hx256, _, 0, rfl, by rw [Go.Lib.bytesWorld_size]; omega, ?_⟩
  have hk := (List.getElem?_eq_some_iff.1 hx).1
  rw [Nat.zero_add, Go.Lib.bytesWorld_cell w _ (strB s) k (by rw [strB_size]; exact hk)]
  have e : (strB s).data.toList.getD k 0 = UInt8.ofNat x := by
   unfold strB; rw [strOfNums_data, List.getD_eq_getElem?_getD, List.getElem?_map, List.getElem?_map, hx]; rfl
  rw [e, UInt8.toNat_ofNat_of_lt' (by simpa using hx256)]
def txL (s : List Nat) : List Nat := ub s.length ++ s
theorem ints_few (l : List Int) (hl : ∀ x ∈ l, Wf64 x) (hn : l.length ≤ 5000) : (intsL l).length ≤ 1000000 := by
 have h1 := best_le 3 l 0 (by omega)
 have h2 := lpl_len l hl
 have h3 := ub10 (n := l.length) (by omega)
 have h4 : (asL 0 l).length = 1 + (ub l.length).length + (lpl l).length := by unfold asL; rw [if_pos rfl, List.length_append, List.length_append]; rfl
 have h5 : (intsL l).length ≤ (asL 0 l).length := h1
 omega
def plc : List (List Nat) → List Nat → Nat
 | [], _ => 0
 | a :: r, x => if a = x then 0 else plc r x + 1
theorem plc_le (all : List (List Nat)) (x : List Nat) : plc all x ≤ all.length := by
 induction all with
 | nil => exact Nat.le_refl _
 | cons a r ih => rw [plc]; split <;> simp <;> omega
theorem plc_eq {all : List (List Nat)} {x : List Nat} {k : Nat} (hk : all[k]? = some x) (hno : x ∉ all.take k) : plc all x = k := by
 induction all generalizing k with
 | nil => cases hk
 | cons a r ih =>
  rcases k with _ | k
  ·have hk : a = x := by simpa using hk
   rw [plc, if_pos hk]
  ·have hk : r[k]? = some x := by simpa using hk
   rw [List.take_succ_cons, List.mem_cons, not_or] at hno
   rw [plc, if_neg (fun e => hno.1 e.symm), ih hk hno.2]
def pre (all : List (List Nat)) (k : Nat) (x : List Nat) : List Int := if x ∈ all.take k then [(plc all x : Int)] else []
def textsL (l : List (List Nat)) : List Nat := ub (uqL l).length ++ ((uqL l).map txL).flatten ++ intsL (l.map fun x => (plc (uqL l) x : Int))
def TX3 (wa : World) (all : List (List Nat)) (m : Nat) (up v : Value) (wr : World) : Prop :=
 ∃ (j N : Nat) (Ap : Option Addr) (cp : Nat), j ≤ m ∧ v = .int .i64 (j : Int) ∧ up = .slice Ap N cp ∧ N ≤ 10 + 1000010 * j ∧ OwnS wr wa.heap.size Ap N cp (ub m ++ ((all.take j).map txL).flatten) ∧ Below wa.heap.size wa wr
theorem tP_back {most : Nat} (s : List Nat) (h : s.length ≤ most) (hl : s.length < 18446744073709551616) (r : List Nat) : tP most (txL s ++ r) = some (s, r) := by
 unfold tP txL
 rw [List.append_assoc, uP_back h hl]
 simp
theorem runS_texts (ts : List (List Nat)) (h : ∀ s ∈ ts, s.length ≤ 32) (r : List Nat) : ∀ k, k ≤ ts.length → runS (tP 32) k ((ts.map txL).flatten ++ r) = some (ts.take k, ((ts.drop k).map txL).flatten ++ r) := by
 intro k
 induction k with
 | zero => intro _; rfl
 | succ k ih =>
  intro hk
  have hlt : k < ts.length := by omega
  have h1 := ih (by omega)
  rw [List.drop_eq_getElem_cons hlt, List.map_cons, List.flatten_cons, List.append_assoc] at h1
  have hs : (ts[k]).length ≤ 32 := h _ (List.getElem_mem hlt)
  rw [runS_some h1 (tP_back _ hs (by omega) _), List.take_add_one, List.getElem?_eq_getElem hlt]
  rfl
theorem rise_rising {l : List (List Nat)} (h : Rise l) : rising l = true := rising_of fun i s t h1 h2 => by
 obtain ⟨a1, a2⟩ := List.getElem?_eq_some_iff.1 h1
 obtain ⟨b1, b2⟩ := List.getElem?_eq_some_iff.1 h2
 have := List.pairwise_iff_getElem.1 h i (i + 1) a1 b1 (by omega)
 rw [a2, b2] at this; exact this
theorem plc_at {all : List (List Nat)} {x : List Nat} (h : x ∈ all) : all[plc all x]? = some x := by
 induction all with
 | nil => cases h
 | cons a r ih =>
  rw [plc]
  by_cases e : a = x
  ·rw [if_pos e, e]; rfl
  ·rw [if_neg e, List.getElem?_cons_succ]
   exact ih ((List.mem_cons.1 h).resolve_left fun e2 => e e2.symm)
theorem texts_back (l : List (List Nat)) (hw : ∀ x ∈ l, WfT x) (h32 : ∀ x ∈ l, x.length ≤ 32) (hn : l.length ≤ 4096) : rT (textsL l) = some (l, []) := by
 obtain ⟨hr, hm⟩ := uqL_facts l hw
 have hul := uqL_len l
 have h1 : rU (textsL l) = some (uqL l, intsL (l.map fun x => (plc (uqL l) x : Int))) := by
  unfold textsL
  rw [List.append_assoc]
  refine rU_yes (uP_back (by omega) (by omega) _) (n := (uqL l).length) ?_ (rise_rising hr)
  rw [runS_texts (uqL l) (fun s hs => h32 s ((hm s).1 hs)) _ (uqL l).length (Nat.le_refl _), List.take_length, List.drop_length]
  rfl
 have h2 : rI (intsL (l.map fun x => (plc (uqL l) x : Int))) = some (l.map fun x => (plc (uqL l) x : Int), []) := ints_back _ (fun y hy => by
  obtain ⟨x, -, rfl⟩ := List.mem_map.1 hy
  have := plc_le (uqL l) x; unfold Wf64; omega) (by rw [List.length_map]; exact hn)
 have h3 : okT (uqL l) (l.map fun x => (plc (uqL l) x : Int)) = true := by
  have hlt : ∀ x ∈ l, plc (uqL l) x < (uqL l).length := fun x hx => (List.getElem?_eq_some_iff.1 (plc_at ((hm x).2 hx))).1
  rw [okT_end fun k y hy => by
   rw [List.getElem?_map] at hy
   rcases hx : l[k]? with _ | x
   ·rw [hx] at hy; cases hy
   ·rw [hx] at hy; injection hy with hy; subst hy
    have := hlt x (List.mem_of_getElem? hx); show (0 : Int) ≤ (plc (uqL l) x : Int) ∧ (plc (uqL l) x : Int) < _; omega]
  rw [Bool.not_eq_true', ← Bool.not_eq_true, List.contains_iff_mem]
  intro hf
  unfold usedL at hf
  obtain ⟨i, hi, hf⟩ := List.mem_map.1 hf
  rw [List.mem_range] at hi
  obtain ⟨x, hx⟩ : ∃ x, (uqL l)[i]? = some x := ⟨_, List.getElem?_eq_getElem hi⟩
  have hxl : x ∈ l := (hm x).1 (List.mem_of_getElem? hx)
  have hpi : plc (uqL l) x = i := plc_eq hx (fun hmem => by
   obtain ⟨j, hj⟩ := List.getElem?_of_mem hmem
   rw [List.getElem?_take] at hj
   split at hj
   ·rename_i hji
    obtain ⟨a1, a2⟩ := List.getElem?_eq_some_iff.1 hj
    obtain ⟨b1, b2⟩ := List.getElem?_eq_some_iff.1 hx
    have := List.pairwise_iff_getElem.1 hr j i a1 b1 hji
    rw [a2, b2, tls_irr] at this; cases this
   ·cases hj)
  have : (l.map fun x => (plc (uqL l) x : Int)).contains (i : Int) = true := List.contains_iff_mem.2 (List.mem_map.2 ⟨x, hxl, by rw [hpi]⟩)
  rw [this] at hf; cases hf
 rw [rT_yes h1 h2 h3, List.map_map]
 congr 2
 refine (List.map_congr_left fun x hx => ?_).trans (List.map_id l)
 exact pickT_at (plc_at ((hm x).2 hx))
theorem strCells_by (s : List Nat) (hs : WfT s) : Go.Lib.strCells (strB s) = bys s := by
 unfold Go.Lib.strCells strB bys
 rw [strOfNums_data, List.map_map, List.map_map]
 refine List.map_congr_left fun x hx => ?_
 show Value.int .u8 ((UInt8.ofNat (Int.ofNat x).toNat).toNat : Int) = .int .u8 (x : Int)
 rw [show (Int.ofNat x).toNat = x from rfl, UInt8.toNat_ofNat_of_lt' (by simpa using hs x hx)]
theorem ownStr {w : World} {B n : Nat} {v : Value} {l : List Value} (h : w.ownsRow B 5 1 v n l) : ∃ A cap, v = .slice A n cap := by
 rcases h.2 with ⟨e0, e1⟩ | ⟨g, cap', cur, e0, -⟩
 ·exact ⟨none, 0, by rw [e0, e1]⟩
 ·exact ⟨_, _, e0⟩
theorem ownB {w : World} {B n cap : Nat} {A : Option Addr} {l : List Nat} (h : OwnS w B A n cap l) : ∀ k, (Value.slice A n cap).ownBlock = some k → B ≤ k := fun k hk => by
 rcases A with _ | a
 ·cases hk
 ·exact h.base k (by simpa [Value.ownBlock] using hk)
set_option maxHeartbeats 2000000 in
theorem putT_any (B : Nat) (A : Option Addr) (n cap : Nat) (l s : List Nat) (hs : WfT s) (hl : s.length ≤ 1000000) (w : World) (H : Hid (OwnS w B A n cap l)) (hn : n ≤ 1099511627776) (hB : B ≤ w.heap.size) :
  Calls Tryz.prog 77 #[.slice A n cap, .string (strB s)] w (Puts B w (l ++ txL s)) := by
 obtain ⟨m, hm⟩ : ∃ m, m = s.length := ⟨_, rfl⟩
 have hsz : (strB s).size = m := by rw [strB_size, hm]
 have HSZ := Lib.hid hsz
 have hmw : IntKind.u64.wrap (m : Int) = (m : Int) := by rw [IntKind.wrap_u64]; omega
 have HU := Lib.hid (putU_any B A n cap l m (by omega) w H hn hB)
 have H10 : Hid ((ub m).length ≤ 10) := Lib.hid (ub10 (show m < 18446744073709551616 by omega))
 have HWS := Lib.hid hs
 have HM := Lib.hid hm
 have HLN : Hid (n = l.length) := Lib.hid H.out.len
 have hml : m ≤ 1000000 := by omega
 obtain ⟨i0, hi, hz0, hz1, hz2⟩ := info_parts infoU8
 have HI := Lib.hid (And.intro hi (And.intro hz0 (And.intro hz1 hz2)))
 clear hs hm hl hi hz0 hz1 hz2
 go_enter Tryz.func77, Tryz.ntmps77
 go_wp2_with (first
  | (go_at_call 93; (with_reducible refine (HU.out).mono ?_); rintro e w2 hp; obtain ⟨A2, n2, c2, rfl, HO2, HB2, hn2⟩ := hp.at; have HN2 := Lib.hid hn2; have hn10 : n2 ≤ n + 10 := (by have := H10.out; have := HLN.out; rw [hn2, List.length_append]; omega); have hB2 : B ≤ w2.heap.size := Nat.le_trans hB HB2.out.size; clear hp hn2)
  | (at_builtin; refine Go.Lib.wpList_append_own_string _ rfl (.tmp 9) (.tmp 10) 32 9 rfl B 5 i0 Tryz.underlying32 Tryz.underlying9 HI.out.1 HI.out.2.1 HI.out.2.2.1 HI.out.2.2.2 (.slice A2 n2 c2) n2 _ rfl HO2.out.1 (strB s) rfl (by rw [HSZ.out]; unfold maxLen; omega) (by rw [HSZ.out]; omega) hB2 ?_; intro v4 w4 ho4 hg4 hr4; rw [HSZ.out, strCells_by s HWS.out] at ho4; obtain ⟨A5, c5, hv4⟩ := ownStr ho4; subst hv4; have HO4 := Lib.hid ho4; have HB4 := Lib.hid (HB2.out.grown hg4 hB2 (ownB HO2.out)); clear ho4 hg4 hr4))
 have ho := HO4.out
 rw [show bys (l ++ ub m) ++ bys s = bys (l ++ txL s) by unfold txL bys; rw [← HM.out]; simp] at ho
 go_ret
 refine ⟨A5, _, c5, rfl, ⟨ho, fun x hx => ?_⟩, HB4.out, HB4.out.size⟩
 rcases List.mem_append.1 hx with h | h
 ·exact H.out.2 x h
 ·unfold txL at h
  rcases List.mem_append.1 h with h2 | h2
  ·exact HO2.out.2 x (List.mem_append.2 (.inr (by rw [HM.out]; exact h2)))
  ·exact HWS.out x h2
end Go.Proofs.YtjldamkmdkaiiaaGreatDoor
