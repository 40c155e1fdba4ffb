/-
  Layer column: ReadReals of any bytes.
-/
import Derived.Test.YtpobfgokikfmbaaGreatDoorQPbak5
import Derived.Test.YtpobfgokikfmbaaGreatDoorQPbak3
import Derived.Test.YtpobfgokikfmbaaGreatDoorQPbak4
import Derived.Sort.Walk0
set_option linter.unusedSimpArgs false
set_option linter.unusedVariables false
set_option maxRecDepth 8000
namespace Go.Proofs.YtpobfgokikfmbaaGreatDoor
open Go.RowKit Go.WideShapes Col
namespace Col
/-- Numbers with a point that are all of some bytes. -/
def rFL (q : List Nat) : Option (List Nat) := match rF q with
  | some (us, []) => some us
  | _ => none
theorem rFL_some {q us : List Nat} (h : rF q = some (us, [])) : rFL q = some us := by unfold rFL; rw [h]
theorem rFL_none {q : List Nat} (h : rF q = none) : rFL q = none := by unfold rFL; rw [h]
theorem rFL_left {q r us : List Nat} (h : rF q = some (us, r)) (hr : r ≠ []) : rFL q = none := by
  unfold rFL; rw [h]
  rcases r with _ | ⟨x, r⟩
  · exact (hr rfl).elim
  · rfl
end Col
/-- What the list's cell holds behind the reading. -/
def RdFA (q : List Nat) (cl B : Nat) (b : Bool) (w : World) : Prop := match b with
  | true => ∃ L n us, rFL q = some us ∧ n = us.length ∧ w.heap[cl]? = some (.cells #[.slice (some ⟨L, 0, none⟩) n n] 42 (0, 0)) ∧ RowF w L us ∧ B ≤ L
  | false => rFL q = none
theorem RdFA.keep {q : List Nat} {cl B B' g : Nat} {b : Bool} {w w' : World} (h : RdFA q cl B b w) (hk : Kept (Only g) w w') (h1 : cl ≠ g) (h2 : g < B) (hB : B' ≤ B) : RdFA q cl B' b w' := by
  cases b with
  | false => exact h
  | true =>
    obtain ⟨L, n, us, e1, e2, hrow, hrf, hl⟩ := h
    exact ⟨L, n, us, e1, e2, hk.heap hrow fun e => h1 e, hrf.keep hk (fun e => by have e : L = g := e; omega), by omega⟩
theorem rdfa_no {q : List Nat} {cl B : Nat} {b : Bool} {w : World} (h : rFL q = none) (hr : RdFA q cl B b w) : b = false := by
  rcases b with _ | _
  · rfl
  · obtain ⟨L, n, us, e1, -⟩ := hr
    rw [h] at e1; cases e1
theorem rdfa_yes {q us : List Nat} {cl B : Nat} {b : Bool} {w : World} (h : rFL q = some us) (hr : RdFA q cl B b w) : b = true := by
  rcases b with _ | _
  · have hr : rFL q = none := hr
    rw [h] at hr; cases hr
  · rfl
set_option maxHeartbeats 2000000 in
theorem listFnF_any (g bf cl : Nat) (q : List Nat) (hql : q.length ≤ 1099511627776) (w : World) (HR : Hid (Rd w g q)) (Hf : Hid (w.heap[bf]? = some (.cells #[.func (.func 80) #[] #[]] 108 (0, 0)))) (Hc : Hid (w.heap[cl]? = some (.cells #[.slice none 0 0] 42 (0, 0)))) (h1 : cl < g) (h2 : bf < g) :
    Calls Tryz.prog 119 #[.pointer (some ⟨g, 0, none⟩), .pointer (some ⟨bf, 0, none⟩), .pointer (some ⟨cl, 0, none⟩)] w (Tried g (fun k => k = cl) (RdFA q cl (g + 1)) w) := by
  have hc : w.cell? ⟨bf, 0, none⟩ = some (.func (.func 80) #[] #[]) := by rw [cell_of_row _ _ _ _ _ _ Hf.out]; rfl
  have HI := Lib.hid (readReals_any g q w (Lib.hid ⟨HR.out, hql⟩))
  have hgl := HR.out.glt
  rcases ho : rF q with _ | ⟨us, r⟩
  · have HO := Lib.hid ho
    clear ho
    go_enter Tryz.func119, Tryz.ntmps119
    go_wp2_with (go_at_call 80; refine (HI.out).mono ?_; intro e w3 h8; rw [HO.out] at h8; obtain ⟨rfl, h1, h2⟩ := h8)
    exact ⟨rfl, h2.mono fun k hk => .inl (.inr hk), .inr ⟨rfl, h1, rFL_none HO.out⟩⟩
  · have HO := Lib.hid ho
    clear ho
    go_enter Tryz.func119, Tryz.ntmps119
    go_wp2_with (go_at_call 80; refine (HI.out).mono ?_; intro e w3 h8; rw [HO.out] at h8; obtain ⟨L, n, rfl, hn, hL, hrf, hrd, hk⟩ := h8; have HN := Lib.hid hn; have HL := Lib.hid hL; have HRF := Lib.hid hrf; have HRD := Lib.hid hrd; have HK := Lib.hid hk; have hrow := hk.heap Hc.out (fun e => by have e : cl = g := e; omega); have c3 : w3.cell? ⟨cl, 0, none⟩ = some (.slice none 0 0) := (by rw [cell_of_row _ _ _ _ _ _ hrow]; rfl); have f3 : w3.frozen? ⟨cl, 0, none⟩ = false := row_frozen hrow 0; have HROW := Lib.hid hrow; clear hn hL hrf hrd hk hrow)
    have hk : Kept (fun k => k = cl) w3 (w3.setCell ⟨cl, 0, none⟩ (.slice (some ⟨L, 0, none⟩) n n)) := (Kept.refl _ _).setCell _ _ (.inl rfl)
    have hrow2 : (w3.setCell ⟨cl, 0, none⟩ (.slice (some ⟨L, 0, none⟩) n n)).heap[cl]? = some (.cells #[.slice (some ⟨L, 0, none⟩) n n] 42 (0, 0)) := by
      have := HROW.out; rw [World.setCell]; simp [Array.getElem?_modify, this]
    have hkk : Kept (fun k => k = cl ∨ k = g) w (w3.setCell ⟨cl, 0, none⟩ (.slice (some ⟨L, 0, none⟩) n n)) := (HK.out.mono fun k hk => .inl (.inr hk)).setCell _ _ (.inl (.inl rfl))
    have hL := HL.out
    refine bodyPost_end (results_none rfl _ _ _) rfl ⟨hkk, .inl ⟨r, rfl, HRD.out.1.high' hk (fun k hk => by have hk : k = cl := hk; omega) (fun A C h => off_slice h.bytes HROW.out), ?_⟩⟩
    by_cases hr : r = []
    · subst hr
      exact ⟨L, n, us, rFL_some HO.out, HN.out, hrow2, HRF.out.keep hk (fun e => by have e : L = cl := e; omega), by omega⟩
    · have : decide (r = []) = false := by simpa using hr
      rw [this]
      exact rFL_left HO.out hr
/-- How ReadReals ends. -/
def RFEnds (o : Option (List Nat)) (w : World) (e : Ending) (w' : World) : Prop := match o with
  | some us => (∃ L n, e = .returned (.tuple #[.slice (some ⟨L, 0, none⟩) n n, .int .i64 0]) ∧ n = us.length ∧ RowF w' L us) ∧ Below w.heap.size w w'
  | none => e = .returned (.tuple #[.slice none 0 0, .int .i64 3]) ∧ Below w.heap.size w w'
set_option maxHeartbeats 2000000 in
theorem readListF_any (A : Option Addr) (C : Nat) (q : List Nat) (n : Nat) (hn : Hid (n = q.length)) (hn4 : n ≤ 1099511627776) (hC : n ≤ C) (hC' : C ≤ maxLen) (w : World) (HA : Hid (ByAt w A q)) :
    Calls Tryz.prog 79 #[.slice A n C, .func (.func 80) #[] #[]] w (RFEnds (rFL q) w) := by
  obtain ⟨bf, w1, hbf, hw1, hrow1, hb1, hbf1⟩ := alloc_pt w (.func (.func 80) #[] #[]) 108
  obtain ⟨cl, w2, hcl, hw2, hrow2, hb2, hcl2⟩ := alloc_pt w1 (.slice none 0 0) 42
  have HW : Hid ((w.alloc (.cells #[.func (.func 80) #[] #[]] 108)).alloc (.cells #[.slice none 0 0] 42) = w2) := Lib.hid (by rw [hw2, hw1])
  have hsz : w1.heap.size = w.heap.size + 1 := by rw [hw1]; simp
  have HBF := Lib.hid hbf; have HCL : Hid (cl = w.heap.size + 1) := Lib.hid (by rw [hcl, hsz])
  have HB2 : Hid (Below w.heap.size w w2) := Lib.hid (below_to hb1 hb2)
  have hrf2 := (Kept.of_below (S := fun _ => False) hb2).heap hrow1 fun e => e
  have ht := try_any 119 #[] #[.pointer (some ⟨bf, 0, none⟩), .pointer (some ⟨cl, 0, none⟩)] A C q n hn hC hC' w2 (Lib.hid (HA.out.keep HB2.out)) (fun k => k = cl) (fun k hk => by have hk : k = cl := hk; omega)
    (fun g => RdFA q cl (g + 1)) (RdFA q cl w2.heap.size) (fun g b v2 v3 hg h hk => h.keep hk (by omega) (Nat.lt_succ_self _) (by omega))
    (fun g v1 hg hr hb => listFnF_any g bf cl q (by rw [← hn.out]; exact hn4) v1 (Lib.hid hr) (Lib.hid ((Kept.of_below (S := fun _ => False) hb).heap hrf2 fun e => e)) (Lib.hid ((Kept.of_below (S := fun _ => False) hb).heap hrow2 fun e => e)) (by omega) (by omega))
    (fun _ _ => by first | rfl | kernel_rfl)
  have HT := Lib.hid ht
  have HR2 := Lib.hid hrow2
  clear ht hbf hw1 hrow1 hb1 hcl hw2 hrow2 hb2 hrf2 hbf1
  go_enter Tryz.func79, Tryz.ntmps79
  go_upto_region 2 with fail
  have e1 : w.heap.size = bf := HBF.out.symm
  have e2 : w.heap.size + 1 = cl := HCL.out.symm
  have hx : ∀ (w3 : World), Kept (fun k => k = cl) w2 w3 → Below w.heap.size w w3 := fun w3 hk => HB2.out.trans (hk.below (B := w.heap.size) (by omega) fun k hk => by have hk : k = cl := hk; omega)
  have HX := Lib.hid hx
  clear hx
  rw [HW.out, e2, e1]
  clear e1 e2
  rcases ho : rFL q with _ | us
  · have HO := Lib.hid ho
    clear ho
    go_wp2_with (go_at_call 19; (with_reducible refine (HT.out).mono ?_); rintro e w3 ⟨b, rfl, hr, hk⟩; obtain rfl := rdfa_no HO.out hr; have HB3 := Lib.hid (HX.out w3 hk); clear hr hk)
    go_ret2
    rw [HO.out]
    exact ⟨rfl, HB3.out⟩
  · have HO := Lib.hid ho
    clear ho
    go_wp2_with (go_at_call 19; (with_reducible refine (HT.out).mono ?_); rintro e w3 ⟨b, rfl, hr, hk⟩; obtain rfl := rdfa_yes HO.out hr; have HB3 := Lib.hid (HX.out w3 hk); obtain ⟨L, n9, us9, e9, h8, hrow9, hrf9, hl9⟩ := hr; rw [HO.out] at e9; injection e9 with e9; subst e9; have HN9 := Lib.hid h8; have HRF := Lib.hid hrf9; have c9c : w3.cell? ⟨cl, 0, none⟩ = some (.slice (some ⟨L, 0, none⟩) n9 n9) := (by rw [cell_of_row _ _ _ _ _ _ hrow9]; rfl); clear hk hrow9 hrf9 h8 hl9)
    go_ret2
    rw [HO.out]
    exact ⟨⟨L, n9, rfl, HN9.out, HRF.out⟩, HB3.out⟩
set_option maxHeartbeats 2000000 in
theorem readRealsC_any (A : Option Addr) (C : Nat) (q : List Nat) (n : Nat) (hn : Hid (n = q.length)) (hn4 : n ≤ 1099511627776) (hC : n ≤ C) (hC' : C ≤ maxLen) (w : World) (HA : Hid (ByAt w A q)) :
    Calls Tryz.prog 50 #[.slice A n C] w (RFEnds (rFL q) w) := by
  have HT := Lib.hid (readListF_any A C q n hn hn4 hC hC' w HA)
  rcases ho : rFL q with _ | l
  · have HO := Lib.hid ho
    rw [ho] at HT
    clear ho
    go_enter Tryz.func50, Tryz.ntmps50
    go_wp2_with (go_at_call 79; (with_reducible refine (HT.out).mono ?_); rintro e w3 ⟨rfl, hb⟩; have HB := Lib.hid hb; clear hb)
    go_ret2
    exact ⟨rfl, HB.out⟩
  · have HO := Lib.hid ho
    rw [ho] at HT
    clear ho
    go_enter Tryz.func50, Tryz.ntmps50
    go_wp2_with (go_at_call 79; (with_reducible refine (HT.out).mono ?_); rintro e w3 ⟨⟨L, n9, rfl, h8, ho⟩, hb⟩; have HB := Lib.hid hb; have HOW := Lib.hid ho; have HN := Lib.hid h8; clear hb ho h8)
    go_ret2
    exact ⟨⟨L, n9, rfl, HN.out, HOW.out⟩, HB.out⟩
end Go.Proofs.YtpobfgokikfmbaaGreatDoor

set_option linter.unusedSimpArgs false
set_option linter.unusedVariables false
set_option maxRecDepth 8000
namespace Go.Proofs.YtpobfgokikfmbaaGreatDoor
open Go.RowKit Go.WideShapes Col
theorem FlAt.wf {w : World} {a : Option Addr} {l : List Nat} (h : FlAt w a l) : ∀ x ∈ l, x < 18446744073709551616 := fun x hx => by
  obtain ⟨k, hk⟩ := List.getElem?_of_mem hx
  exact (h k x hk).1
theorem FlAt.nil (w : World) (a : Option Addr) : FlAt w a [] := fun k x hx => by simp at hx
theorem FlAt.at' {w w' : World} {a : Option Addr} {l : List Nat} (h : Hid (FlAt w a l)) (hb : Below w.heap.size w w') : Hid (FlAt w' a l) := h.out.keep hb
theorem FlAt.spot {w : World} {a : Option Addr} {l : List Nat} (h : FlAt w a l) (h0 : 0 < l.length) : ∃ g off, a = some ⟨g, off, none⟩ ∧ g < w.heap.size ∧ ∀ (k : Nat) (x : Nat), l[k]? = some x → w.cell? ⟨g, off + k, none⟩ = some (.float .f64 x) := by
  obtain ⟨-, g, off, rfl, hg, -⟩ := h 0 l[0] (List.getElem?_eq_getElem h0)
  refine ⟨g, off, rfl, hg, fun k x hx => ?_⟩
  obtain ⟨-, g', off', h2, -, hc⟩ := h k x hx
  cases h2
  exact hc
theorem fvs_length (l : List Nat) : (fvs l).length = l.length := List.length_map ..
theorem fvs_append (l m : List Nat) : fvs (l ++ m) = fvs l ++ fvs m := List.map_append ..
theorem fvs_one (l : List Nat) : ∀ u ∈ fvs l, u.oneCell' = true := fun u hu => by
  obtain ⟨x, -, rfl⟩ := List.mem_map.1 hu; rfl
theorem FlAt.of_row {w : World} {g : Nat} {cs : Array Value} {t : TypeId} {fr : Nat × Nat} (l : List Nat) (hl : ∀ x ∈ l, x < 18446744073709551616) (hrow : w.heap[g]? = some (.cells cs t fr)) (hcs : (fvs l).IsPrefix cs.toList) : FlAt w (some ⟨g, 0, none⟩) l := fun k x hx => by
  refine ⟨hl x (List.mem_of_getElem? hx), g, 0, rfl, (Array.getElem?_eq_some_iff.1 hrow).1, ?_⟩
  rw [cell_of_row w g (0 + k) cs t fr hrow, Nat.zero_add, ← Array.getElem?_toList]
  obtain ⟨r, hr⟩ := hcs
  have hk : k < (fvs l).length := by rw [fvs_length]; exact (List.getElem?_eq_some_iff.1 hx).1
  rw [← hr, List.getElem?_append_left hk]
  unfold fvs; rw [List.getElem?_map, hx]; rfl
theorem infoF64e : (Tryz.prog.info? 36).map (fun i => (i.zero, i.size, i.bytes)) = some (some (.float .f64 0), 1, 8) := by kernel_rfl
/-- A slice of whole numbers that the call owns: its block lies from B on. -/
def OwnF (w : World) (B : Nat) (A : Option Addr) (n cap : Nat) (l : List Nat) : Prop := w.ownsRow B 36 1 (.slice A n cap) n (fvs l) ∧ ∀ x ∈ l, x < 18446744073709551616
theorem OwnF.len {w : World} {B n cap : Nat} {A : Option Addr} {l : List Nat} (h : OwnF w B A n cap l) : n = l.length := by have := h.1.1; rw [fvs_length] at this; omega
theorem OwnF.caps {w : World} {B n cap : Nat} {A : Option Addr} {l : List Nat} (h : OwnF w B A n cap l) : n ≤ cap ∧ cap ≤ maxLen := by
  rcases h.1.2 with ⟨h1, h2⟩ | ⟨g, cap', cur, h1, -, -, h2, h3, -⟩
  · cases h1; exact ⟨Nat.le_refl _, Nat.zero_le _⟩
  · cases h1; exact ⟨h2, h3⟩
theorem OwnF.isAt {w : World} {B n cap : Nat} {A : Option Addr} {l : List Nat} (h : OwnF w B A n cap l) : FlAt w A l := by
  rcases h.1.2 with ⟨h1, h2⟩ | ⟨g, cap', cur, h1, hb, hrow, -, -, hs, ht⟩
  · have := h.len
    have hl : l = [] := List.eq_nil_of_length_eq_zero (by omega)
    subst hl; exact FlAt.nil _ _
  · cases h1
    exact FlAt.of_row l h.2 hrow ⟨cur.toList.drop (n * 1), by rw [← ht, List.take_append_drop]⟩
theorem OwnF.nil (w : World) (B : Nat) : OwnF w B none 0 0 [] := ⟨w.ownsRow_nil B _ 1, fun x hx => by cases hx⟩
theorem OwnF.keep {w w' : World} {B n cap : Nat} {A : Option Addr} {l : List Nat} (h : OwnF w B A n cap l) (hb : Below w.heap.size w w') : OwnF w' B A n cap l :=
  ⟨h.1.kept (row := none) ⟨hb.os, hb.tape, hb.output, hb.size, fun k hk _ => hb.block k hk⟩ (by rcases A with _ | a <;> simp [Value.ownBlock]), h.2⟩
theorem OwnF.base {w : World} {B n cap : Nat} {A : Option Addr} {l : List Nat} (h : OwnF w B A n cap l) : ∀ k, A.map (·.block) = some k → B ≤ k := fun k hk => by
  rcases h.1.2 with ⟨h1, h2⟩ | ⟨g, cap', cur, h1, hb, _⟩
  · cases h1; cases hk
  · cases h1; simp at hk; omega
theorem fl_at {w : World} {a : Addr} {l : List Nat} (h : FlAt w (some a) l) (j : Nat) (u : Value) (hu : (fvs l)[j]? = some u) : w.cell? (a.add j) = some u := by
  unfold fvs at hu
  rw [List.getElem?_map] at hu
  rcases hx : l[j]? with _ | x
  · rw [hx] at hu; cases hu
  · rw [hx] at hu
    obtain ⟨-, g, off, e, -, hc⟩ := h j x hx
    cases e
    rw [addr_add, hc]; exact hu
/-- append of whole numbers that are some, the source nil, empty or not. -/
theorem run_append_fl (w : World) (B : Nat) (A : Option Addr) (n cap : Nat) (l : List Nat) (hown : OwnF w B A n cap l) (a : Addr) (m c : Nat) (l2 : List Nat) (hm : m = l2.length) (h2 : FlAt w (some a) l2)
    (hbytes : (n + m) * 8 ≤ 140737488355328) (hbase : B ≤ w.heap.size) (ty : TypeId) :
    ∃ A' cap' w', (Builtin.append_ #[42, 42] ty #[.slice A n cap, .slice (some a) m c]).run Tryz.prog w = .ok (.slice A' (n + m) cap') w' ∧ OwnF w' B A' (n + m) cap' (l ++ l2) ∧ w.grownBy w' (A.map (·.block)) := by
  obtain ⟨i0, hi, hz0, hz1, hz2⟩ := info_parts infoF64e
  have hlt : ∀ x ∈ l ++ l2, x < 18446744073709551616 := fun x hx => by
    rcases List.mem_append.1 hx with h | h
    · exact hown.2 x h
    · exact h2.wf x h
  obtain ⟨v', w', hr, h3, h4, h5, h6⟩ := run_append_own_at (P := Tryz.prog) w B 42 ty 36 i0 (.float .f64 0) 1 8 Tryz.underlying42 hi hz0 hz1 hz2 rfl (by decide) _ n (fvs l) hown.1 a m c (fvs l2) (by rw [fvs_length, hm, Nat.mul_one]) (fl_at h2) (fvs_one l2) (by unfold maxLen; omega) (by omega) hbase
  rw [← fvs_append] at h3
  rcases h3.2 with ⟨rfl, h0⟩ | ⟨g, cap', cur, rfl, hb, hrest⟩
  · have hn0 : n = 0 := by omega
    have hm0 : m = 0 := by omega
    subst hn0; subst hm0
    exact ⟨none, 0, w', hr, ⟨h3, hlt⟩, by rcases A with _ | _ <;> exact h4⟩
  · exact ⟨_, _, w', hr, ⟨h3, hlt⟩, by rcases A with _ | _ <;> exact h4⟩
theorem wpList_append_fl {w : World} {ops : Array Oper} {rest : List Oper} {o : Oper} {a : Act} {Q : Exit → Act → World → Prop} (hgd : o.guard = none) (s x : Operand)
    (ho : o.op = .call { callee := .builtin .append, args := #[s, x], argTypes := #[42, 42] })
    (B : Nat) (A : Option Addr) (n cap : Nat) (l : List Nat) (hs : a.eval s = .slice A n cap) (hown : OwnF w B A n cap l) (b : Addr) (m c : Nat) (l2 : List Nat) (hx : a.eval x = .slice (some b) m c) (hm : m = l2.length) (h2 : FlAt w (some b) l2)
    (hbytes : (n + m) * 8 ≤ 140737488355328) (hbase : B ≤ w.heap.size)
    (h : ∀ A' cap' w', OwnF w' B A' (n + m) cap' (l ++ l2) → w.grownBy w' (A.map (·.block)) → wpList Tryz.prog ops Q rest (a.put o.dst (.slice A' (n + m) cap')) w') : wpList Tryz.prog ops Q (o :: rest) a w := by
  refine wpList_plain hgd fun K hK => ?_
  obtain ⟨A', cap', w', hr, h3, h4⟩ := run_append_fl w B A n cap l hown b m c l2 hm h2 hbytes hbase o.type
  unfold Oper.wp execOp
  simp only [ho, resolve, invoke, builtin, Sem.run_bind, Sem.run_pure, Result.andThen_ok, List.map_toArray, List.map_cons, List.map_nil, hs, hx, hr]
  exact hK _ _ (h A' cap' w' h3 h4)
theorem fl_one (w : World) (x : Nat) (hx : x < 18446744073709551616) : FlAt (w.alloc (.cells #[.float .f64 x] 36)) (some ⟨w.heap.size, 0, none⟩) [x] :=
  FlAt.of_row _ (fun y hy => by simp at hy; subst hy; exact hx) (heap_alloc_new' w _) ⟨[], rfl⟩
end Go.Proofs.YtpobfgokikfmbaaGreatDoor

set_option linter.unusedSimpArgs false
set_option linter.unusedVariables false
set_option maxRecDepth 8000
namespace Go.Proofs.YtpobfgokikfmbaaGreatDoor
open Go.RowKit Go.WideShapes Col
/-- How the document's ReadReals ends. -/
def RFRef (w : World) (o : Option (List Nat)) (e : Ending) (w' : World) : Prop := match o with
  | some us => (∃ A' n' cap', e = .returned (.tuple #[.slice A' n' cap', .bool true]) ∧ OwnF w' w.heap.size A' n' cap' us) ∧ Below w.heap.size w w'
  | none => e = .returned (.tuple #[.slice none 0 0, .bool false]) ∧ Below w.heap.size w w'
theorem riL_inv {p : List Nat} {xs : List Int} (h : riL p = some xs) : rI p = some (xs, []) := by
  unfold riL at h
  rcases hr : rI p with _ | ⟨ys, _ | ⟨y, r⟩⟩
  · rw [hr] at h; cases h
  · rw [hr] at h; injection h with h; rw [h]
  · rw [hr] at h; cases h
theorem rFL_ok {p : List Nat} {xs : List Int} (h : riL p = some xs) (hb : okF xs = true) : rFL p = some (xs.map u64N) := rFL_some (rF_yes (riL_inv h) hb)
theorem rFL_bad {p : List Nat} {xs : List Int} (h : riL p = some xs) (hb : okF xs = false) : rFL p = none := rFL_none (rF_bad (riL_inv h) hb)
theorem rFL_no {p : List Nat} (h : riL p = none) : rFL p = none := by
  rcases hr : rI p with _ | ⟨ys, _ | ⟨y, r⟩⟩
  · exact rFL_none (rF_no hr)
  · rw [riL_some hr] at h; cases h
  · by_cases hb : okF ys = true
    · exact rFL_left (rF_yes hr hb) (by simp)
    · exact rFL_none (rF_bad hr (by simpa using hb))
theorem OwnF.more {w : World} {B n cap : Nat} {A : Option Addr} {l : List Nat} {B' : Nat} (h : OwnF w B A n cap l) (hB : B' ≤ B) : OwnF w B' A n cap l := by
  refine ⟨⟨h.1.1, ?_⟩, h.2⟩
  rcases h.1.2 with h1 | ⟨g, cap', cur, h1, hb, h2⟩
  · exact .inl h1
  · exact .inr ⟨g, cap', cur, h1, Nat.le_trans hB hb, h2⟩
end Go.Proofs.YtpobfgokikfmbaaGreatDoor

set_option linter.unusedSimpArgs false
set_option linter.unusedVariables false
set_option maxRecDepth 8000
namespace Go.Proofs.YtpobfgokikfmbaaGreatDoor
open Go.RowKit Go.WideShapes Col
theorem riL_all (q : List Nat) : riL q = allOf (rI q) := by
  unfold riL allOf
  rcases rI q with _ | ⟨l, _ | ⟨x, r⟩⟩ <;> rfl
end Go.Proofs.YtpobfgokikfmbaaGreatDoor

set_option linter.unusedSimpArgs false
set_option linter.unusedVariables false
set_option maxRecDepth 8000
namespace Go.Proofs.YtpobfgokikfmbaaGreatDoor
open Go.RowKit Go.WideShapes Col
def WfT (x : List Nat) : Prop := ∀ c ∈ x, c < 256
/-- A slice value that holds some whole numbers, in a world. -/
def TxAt (w : World) (a : Option Addr) (l : List (List Nat)) : Prop := ∀ (k : Nat) (x : List Nat), l[k]? = some x → WfT x ∧ ∃ g off, a = some ⟨g, off, none⟩ ∧ g < w.heap.size ∧ w.cell? ⟨g, off + k, none⟩ = some (.string (strB x))
theorem TxAt.keep {w w' : World} {a : Option Addr} {l : List (List Nat)} (h : TxAt w a l) (hb : Below w.heap.size w w') : TxAt w' a l := fun k x hx => by
  obtain ⟨h1, g, off, h2, h3, h4⟩ := h k x hx
  exact ⟨h1, g, off, h2, Nat.lt_of_lt_of_le h3 hb.size, (hb.cell (p := ⟨g, off + k, none⟩) h3).trans h4⟩
theorem TxAt.wf {w : World} {a : Option Addr} {l : List (List Nat)} (h : TxAt w a l) : ∀ x ∈ l, WfT x := fun x hx => by
  obtain ⟨k, hk⟩ := List.getElem?_of_mem hx
  exact (h k x hk).1
theorem TxAt.nil (w : World) (a : Option Addr) : TxAt w a [] := fun k x hx => by simp at hx
theorem TxAt.at' {w w' : World} {a : Option Addr} {l : List (List Nat)} (h : Hid (TxAt w a l)) (hb : Below w.heap.size w w') : Hid (TxAt w' a l) := h.out.keep hb
theorem TxAt.spot {w : World} {a : Option Addr} {l : List (List Nat)} (h : TxAt w a l) (h0 : 0 < l.length) : ∃ g off, a = some ⟨g, off, none⟩ ∧ g < w.heap.size ∧ ∀ (k : Nat) (x : List Nat), l[k]? = some x → w.cell? ⟨g, off + k, none⟩ = some (.string (strB x)) := by
  obtain ⟨-, g, off, rfl, hg, -⟩ := h 0 l[0] (List.getElem?_eq_getElem h0)
  refine ⟨g, off, rfl, hg, fun k x hx => ?_⟩
  obtain ⟨-, g', off', h2, -, hc⟩ := h k x hx
  cases h2
  exact hc
def tv (x : List Nat) : Value := .string (strB x)
def tvs (l : List (List Nat)) : List Value := l.map tv
theorem tvs_length (l : List (List Nat)) : (tvs l).length = l.length := List.length_map ..
theorem tvs_append (l m : List (List Nat)) : tvs (l ++ m) = tvs l ++ tvs m := List.map_append ..
theorem tvs_one (l : List (List Nat)) : ∀ u ∈ tvs l, u.oneCell' = true := fun u hu => by
  obtain ⟨x, -, rfl⟩ := List.mem_map.1 hu; rfl
theorem TxAt.of_row {w : World} {g : Nat} {cs : Array Value} {t : TypeId} {fr : Nat × Nat} (l : List (List Nat)) (hl : ∀ x ∈ l, WfT x) (hrow : w.heap[g]? = some (.cells cs t fr)) (hcs : (tvs l).IsPrefix cs.toList) : TxAt w (some ⟨g, 0, none⟩) l := fun k x hx => by
  refine ⟨hl x (List.mem_of_getElem? hx), g, 0, rfl, (Array.getElem?_eq_some_iff.1 hrow).1, ?_⟩
  rw [cell_of_row w g (0 + k) cs t fr hrow, Nat.zero_add, ← Array.getElem?_toList]
  obtain ⟨r, hr⟩ := hcs
  have hk : k < (tvs l).length := by rw [tvs_length]; exact (List.getElem?_eq_some_iff.1 hx).1
  rw [← hr, List.getElem?_append_left hk]
  unfold tvs; rw [List.getElem?_map, hx]; rfl
theorem infoStr : (Tryz.prog.info? 9).map (fun i => (i.zero, i.size, i.bytes)) = some (some (.string { data := #[] }), 1, 16) := by kernel_rfl
/-- A slice of whole numbers that the call owns: its block lies from B on. -/
def OwnX (w : World) (B : Nat) (A : Option Addr) (n cap : Nat) (l : List (List Nat)) : Prop := w.ownsRow B 9 1 (.slice A n cap) n (tvs l) ∧ ∀ x ∈ l, WfT x
theorem OwnX.len {w : World} {B n cap : Nat} {A : Option Addr} {l : List (List Nat)} (h : OwnX w B A n cap l) : n = l.length := by have := h.1.1; rw [tvs_length] at this; omega
theorem OwnX.caps {w : World} {B n cap : Nat} {A : Option Addr} {l : List (List Nat)} (h : OwnX w B A n cap l) : n ≤ cap ∧ cap ≤ maxLen := by
  rcases h.1.2 with ⟨h1, h2⟩ | ⟨g, cap', cur, h1, -, -, h2, h3, -⟩
  · cases h1; exact ⟨Nat.le_refl _, Nat.zero_le _⟩
  · cases h1; exact ⟨h2, h3⟩
theorem OwnX.isAt {w : World} {B n cap : Nat} {A : Option Addr} {l : List (List Nat)} (h : OwnX w B A n cap l) : TxAt w A l := by
  rcases h.1.2 with ⟨h1, h2⟩ | ⟨g, cap', cur, h1, hb, hrow, -, -, hs, ht⟩
  · have := h.len
    have hl : l = [] := List.eq_nil_of_length_eq_zero (by omega)
    subst hl; exact TxAt.nil _ _
  · cases h1
    exact TxAt.of_row l h.2 hrow ⟨cur.toList.drop (n * 1), by rw [← ht, List.take_append_drop]⟩
theorem OwnX.nil (w : World) (B : Nat) : OwnX w B none 0 0 [] := ⟨w.ownsRow_nil B _ 1, fun x hx => by cases hx⟩
theorem OwnX.keep {w w' : World} {B n cap : Nat} {A : Option Addr} {l : List (List Nat)} (h : OwnX w B A n cap l) (hb : Below w.heap.size w w') : OwnX w' B A n cap l :=
  ⟨h.1.kept (row := none) ⟨hb.os, hb.tape, hb.output, hb.size, fun k hk _ => hb.block k hk⟩ (by rcases A with _ | a <;> simp [Value.ownBlock]), h.2⟩
theorem OwnX.base {w : World} {B n cap : Nat} {A : Option Addr} {l : List (List Nat)} (h : OwnX w B A n cap l) : ∀ k, A.map (·.block) = some k → B ≤ k := fun k hk => by
  rcases h.1.2 with ⟨h1, h2⟩ | ⟨g, cap', cur, h1, hb, _⟩
  · cases h1; cases hk
  · cases h1; simp at hk; omega
theorem tx_at {w : World} {a : Addr} {l : List (List Nat)} (h : TxAt w (some a) l) (j : Nat) (u : Value) (hu : (tvs l)[j]? = some u) : w.cell? (a.add j) = some u := by
  unfold tvs at hu
  rw [List.getElem?_map] at hu
  rcases hx : l[j]? with _ | x
  · rw [hx] at hu; cases hu
  · rw [hx] at hu
    obtain ⟨-, g, off, e, -, hc⟩ := h j x hx
    cases e
    rw [addr_add, hc]; exact hu
/-- append of whole numbers that are some, the source nil, empty or not. -/
theorem run_append_tx (w : World) (B : Nat) (A : Option Addr) (n cap : Nat) (l : List (List Nat)) (hown : OwnX w B A n cap l) (a : Addr) (m c : Nat) (l2 : List (List Nat)) (hm : m = l2.length) (h2 : TxAt w (some a) l2)
    (hbytes : (n + m) * 16 ≤ 140737488355328) (hbase : B ≤ w.heap.size) (ty : TypeId) :
    ∃ A' cap' w', (Builtin.append_ #[41, 41] ty #[.slice A n cap, .slice (some a) m c]).run Tryz.prog w = .ok (.slice A' (n + m) cap') w' ∧ OwnX w' B A' (n + m) cap' (l ++ l2) ∧ w.grownBy w' (A.map (·.block)) := by
  obtain ⟨i0, hi, hz0, hz1, hz2⟩ := info_parts infoStr
  have hlt : ∀ x ∈ l ++ l2, WfT x := fun x hx => by
    rcases List.mem_append.1 hx with h | h
    · exact hown.2 x h
    · exact h2.wf x h
  obtain ⟨v', w', hr, h3, h4, h5, h6⟩ := run_append_own_at (P := Tryz.prog) w B 41 ty 9 i0 (.string { data := #[] }) 1 16 Tryz.underlying41 hi hz0 hz1 hz2 rfl (by decide) _ n (tvs l) hown.1 a m c (tvs l2) (by rw [tvs_length, hm, Nat.mul_one]) (tx_at h2) (tvs_one l2) (by unfold maxLen; omega) (by omega) hbase
  rw [← tvs_append] at h3
  rcases h3.2 with ⟨rfl, h0⟩ | ⟨g, cap', cur, rfl, hb, hrest⟩
  · have hn0 : n = 0 := by omega
    have hm0 : m = 0 := by omega
    subst hn0; subst hm0
    exact ⟨none, 0, w', hr, ⟨h3, hlt⟩, by rcases A with _ | _ <;> exact h4⟩
  · exact ⟨_, _, w', hr, ⟨h3, hlt⟩, by rcases A with _ | _ <;> exact h4⟩
theorem wpList_append_tx {w : World} {ops : Array Oper} {rest : List Oper} {o : Oper} {a : Act} {Q : Exit → Act → World → Prop} (hgd : o.guard = none) (s x : Operand)
    (ho : o.op = .call { callee := .builtin .append, args := #[s, x], argTypes := #[41, 41] })
    (B : Nat) (A : Option Addr) (n cap : Nat) (l : List (List Nat)) (hs : a.eval s = .slice A n cap) (hown : OwnX w B A n cap l) (b : Addr) (m c : Nat) (l2 : List (List Nat)) (hx : a.eval x = .slice (some b) m c) (hm : m = l2.length) (h2 : TxAt w (some b) l2)
    (hbytes : (n + m) * 16 ≤ 140737488355328) (hbase : B ≤ w.heap.size)
    (h : ∀ A' cap' w', OwnX w' B A' (n + m) cap' (l ++ l2) → w.grownBy w' (A.map (·.block)) → wpList Tryz.prog ops Q rest (a.put o.dst (.slice A' (n + m) cap')) w') : wpList Tryz.prog ops Q (o :: rest) a w := by
  refine wpList_plain hgd fun K hK => ?_
  obtain ⟨A', cap', w', hr, h3, h4⟩ := run_append_tx w B A n cap l hown b m c l2 hm h2 hbytes hbase o.type
  unfold Oper.wp execOp
  simp only [ho, resolve, invoke, builtin, Sem.run_bind, Sem.run_pure, Result.andThen_ok, List.map_toArray, List.map_cons, List.map_nil, hs, hx, hr]
  exact hK _ _ (h A' cap' w' h3 h4)
theorem tx_one (w : World) (x : List Nat) (hx : WfT x) : TxAt (w.alloc (.cells #[.string (strB x)] 9)) (some ⟨w.heap.size, 0, none⟩) [x] :=
  TxAt.of_row _ (fun y hy => by simp at hy; subst hy; exact hx) (heap_alloc_new' w _) ⟨[], rfl⟩
/-- A row of whole numbers that is all of a slice. -/
def RowT (w : World) (g : Nat) (l : List (List Nat)) : Prop := w.heap[g]? = some (.cells (tvs l).toArray 9 (0, 0))
section
variable {w : World} {g : Nat} {l : List (List Nat)}
theorem RowT.fr (h : RowT w g l) (i : Nat) : w.frozen? ⟨g, i, none⟩ = false := row_frozen h i
theorem RowT.at (h : RowT w g l) (i : Nat) (hi : i < l.length) : ∃ u, w.cell? ⟨g, i, none⟩ = some u := by
  rw [cell_of_row _ _ _ _ _ _ h, List.getElem?_toArray]
  exact ⟨_, List.getElem?_eq_getElem (by rw [tvs_length]; exact hi)⟩
theorem RowT.set (h : RowT w g l) (i : Nat) (x : List Nat) : RowT (w.setCell ⟨g, i, none⟩ (.string (strB x))) g (l.set i x) := by
  unfold RowT at *
  rw [World.setCell]
  simp only [Array.getElem?_modify, if_pos, h, Option.map_some]
  have e : (tvs l).toArray.setIfInBounds i (.string (strB x)) = (tvs (l.set i x)).toArray := by
    unfold tvs; rw [List.map_set]; simp; rfl
  simp [e]
theorem RowT.keep {S : Nat → Prop} {w' : World} (h : RowT w g l) (hk : Kept S w w') (hg : ¬ S g) : RowT w' g l := hk.heap h hg
theorem RowT.own {B : Nat} (h : RowT w g l) (hB : B ≤ g) (hl : ∀ x ∈ l, WfT x) (hm : l.length ≤ maxLen) : OwnX w B (some ⟨g, 0, none⟩) l.length l.length l := by
  refine ⟨⟨by rw [tvs_length]; omega, .inr ⟨g, l.length, _, rfl, hB, h, Nat.le_refl _, hm, by simp [tvs_length], by rw [Nat.mul_one]; simp [tvs_length, List.take_of_length_le]⟩⟩, hl⟩
end
theorem rowT_zeros {w : World} {B g q : Nat} (h : w.ownsRow B 9 1 (.slice (some ⟨g, 0, none⟩) q q) q (madeCells (Value.string { data := #[] }).cells (q * 1)).toList) : RowT w g (List.replicate q []) := by
  have e : tvs (List.replicate q []) = List.replicate q (.string { data := #[] }) := by unfold tvs; rw [List.map_replicate]; rfl
  rw [Nat.mul_one, show (Value.string { data := #[] }).cells = #[.string { data := #[] }] from rfl, toList_madeCells_one, ← e] at h
  rcases h.2 with ⟨h1, h2⟩ | ⟨g', cap', cur, h1, hb, hrow, -, -, hs, ht⟩
  · cases h1
  · cases h1
    unfold RowT
    rw [hrow]
    have hc : cur = (tvs (List.replicate q [])).toArray := by
      apply Array.ext'
      rw [← ht, Nat.mul_one, List.take_of_length_le (by rw [Array.length_toList, hs]; omega)]
    rw [hc]
theorem fill_setT (xs : List (List Nat)) (n k : Nat) (hx : xs.length = k) (hk : k < n) (x : List Nat) : (xs ++ List.replicate (n - k) []).set k x = (xs ++ [x]) ++ List.replicate (n - (k + 1)) [] := by
  obtain ⟨m, rfl⟩ : ∃ m, n = k + 1 + m := ⟨n - k - 1, by omega⟩
  rw [show k + 1 + m - k = m + 1 by omega, show k + 1 + m - (k + 1) = m by omega, List.replicate_succ, List.set_append_right _ _ (by omega), hx, Nat.sub_self, List.set_cons_zero, List.append_assoc]; rfl

/-- How one call ends. -/
def StepEndsT {σ : Type} (g : Nat) (Sw : Nat → Prop) (St : σ → World → Prop) (o : Option (List Nat × σ)) (w : World) (e : Ending) (w' : World) : Prop :=
  match o with
  | some p => e = .returned (.string (strB p.1)) ∧ WfT p.1 ∧ St p.2 w' ∧ Kept Sw w w'
  | none => e = .panicked [gu g] ∧ Gone w' g ∧ Kept Sw w w'
/-- How a reading of a list ends. -/
def ListEndsT {σ : Type} (g : Nat) (Sw : Nat → Prop) (St : σ → World → Prop) (o : Option (List (List Nat) × σ)) (w : World) (e : Ending) (w' : World) : Prop :=
  match o with
  | some p => (∃ A n cap, e = .returned (.slice A n cap) ∧ OwnX w' w.heap.size A n cap p.1) ∧ St p.2 w' ∧ Kept Sw w w'
  | none => e = .panicked [gu g] ∧ Gone w' g ∧ Kept Sw w w'
def RTt {σ : Type} (Sw : Nat → Prop) (St : σ → World → Prop) (step : σ → Option (List Nat × σ)) (n : Nat) (w : World) (s0 : σ) (v : Value) (wr : World) : Prop :=
  ∃ (k : Nat) (xs : List (List Nat)) (s : σ), k ≤ n ∧ v = .int .i64 (k : Int) ∧ runS step k s0 = some (xs, s) ∧ (∀ x ∈ xs, WfT x) ∧ RowT wr w.heap.size (xs ++ List.replicate (n - k) []) ∧ St s wr ∧ Kept Sw w wr ∧ w.heap.size < wr.heap.size
theorem infoStr' : (Tryz.prog.info? 9).map (fun i => (i.zero, i.size, i.bytes)) = some (some (.string { data := #[] }), 1, 16) := by kernel_rfl
set_option maxHeartbeats 2000000 in
theorem timesT_any {σ : Type} (step : σ → Option (List Nat × σ)) (F : Nat) (first cap : Array Value) (hent : ∀ (args : Array Value) (w : World), (callFunc F args).run Tryz.prog w = .ok (.enter F args) w)
    (n : Nat) (hn : n ≤ 4096) (g : Nat) (Sw : Nat → Prop) (St : σ → World → Prop) (w : World) (hSw : Hid (∀ k, Sw k → k < w.heap.size)) (hkeep : Hid (∀ s w1 w2, St s w1 → Kept (fun j => w.heap.size ≤ j) w1 w2 → St s w2))
    (s0 : σ) (hstep : Hid (∀ k xs s w1, k < n → runS step k s0 = some (xs, s) → St s w1 → w.heap.size ≤ w1.heap.size → Calls Tryz.prog F (first ++ cap) w1 (StepEndsT g Sw St (step s) w1))) (h0 : Hid (St s0 w)) :
    Calls Tryz.prog 132 #[.int .i64 (n : Int), .func (.func F) first cap] w (ListEndsT g Sw St (runS step n s0) w) := by
  obtain ⟨iu, hiu, hz0, hz1, hz2⟩ := info_parts infoStr'
  have hzb : iu.bytes * n ≤ 281474976710656 := by rw [hz2]; omega
  have hnm : n ≤ maxLen := by unfold maxLen; omega
  go_enter Tryz.func132, Tryz.ntmps132
  go_wp2_with (refine wpList_make_full _ rfl (.tmp 7) (.tmp 7) 41 rfl w.heap.size 9 iu (.string { data := #[] }) 1 Tryz.underlying41 hiu hz0 hz1 .i64 .i64 _ _ n rfl rfl rfl rfl hzb hnm (Nat.le_refl _) ?_; intro w1 own hgr; have HRI := Lib.hid (rowT_zeros own); have HB1 : Hid (Below w.heap.size w w1) := Lib.hid ((Below.refl _ w).grown hgr (Nat.le_refl _) (by intro k hk; cases hk)); clear own hgr)
  have HST : Hid (RTt Sw St step n w s0 (.int .i64 0) w1) := Lib.hid ⟨0, [], s0, Nat.zero_le _, rfl, rfl, (fun x hx => by cases hx), by simpa using HRI.out, hkeep.out _ _ _ h0.out (Kept.of_below HB1.out), Kept.of_below HB1.out, (Array.getElem?_eq_some_iff.1 HRI.out).1⟩
  obtain ⟨L, hL⟩ : ∃ L, L = w.heap.size := ⟨_, rfl⟩
  have HL := Lib.hid hL
  rw [← hL]
  clear hL HRI HB1
  go_loopw [11] (fun v wr => RTt Sw St step n w s0 v wr) (fun v _ => n - (intOf v).toNat)
  case atStart => exact HST.out
  case round =>
    obtain ⟨k, xs, s, hk, rfl, hrun, hwf, hrow, hst, hkp, hsz⟩ := hrel
    have HRUN := Lib.hid hrun; have HWF := Lib.hid hwf; have HST2 := Lib.hid hst; have HK := Lib.hid hkp; have HSZ := Lib.hid hsz
    have HROW : Hid (RowT wr L (xs ++ List.replicate (n - k) [])) := Lib.hid (HL.out ▸ hrow)
    have HXL := Lib.hid (runS_len hrun)
    clear hrun hwf hst hkp hrow HST hsz
    by_cases hlt : k < n
    · have HC := Lib.hid (hstep.out k xs s wr hlt HRUN.out HST2.out (Nat.le_of_lt HSZ.out))
      have HNS : Hid (¬ Sw L) := Lib.hid fun h => by have := hSw.out L h; have := HL.out; omega
      rcases hs : step s with _ | ⟨x, s'⟩
      · have HN := Lib.hid (runS_none HRUN.out hs n hlt)
        rw [hs] at HC
        have HC2 : Hid (Calls Tryz.prog F (first ++ cap) wr fun e w' => e = .panicked [gu g] ∧ Gone w' g ∧ Kept Sw wr w') := HC
        clear hs HC
        go_wp2_with ((with_reducible refine (HC2.out).mono ?_); rintro e w2 ⟨rfl, h1, h2⟩)
        rw [HN.out]
        exact ⟨rfl, rfl, h1, HK.out.trans h2⟩
      · have HN := Lib.hid (runS_some HRUN.out hs)
        rw [hs] at HC
        have HC2 : Hid (Calls Tryz.prog F (first ++ cap) wr fun e w' => e = .returned (.string (strB x)) ∧ WfT x ∧ St s' w' ∧ Kept Sw wr w') := HC
        have HSET := Lib.hid (fill_setT xs n k HXL.out hlt x)
        clear hs HC
        go_wp2_with ((with_reducible refine (HC2.out).mono ?_); rintro e w2 ⟨rfl, h1, h2, h3⟩; have HR2 : Hid (RowT w2 L _) := Lib.hid (HROW.out.keep h3 HNS.out); have HWX := Lib.hid h1; have HS2 := Lib.hid h2; have HK2 := Lib.hid h3; have f2 := HR2.out.fr k; obtain ⟨u2, c2⟩ := HR2.out.at k (by rw [List.length_append, List.length_replicate, HXL.out]; omega); clear h1 h2 h3)
        go_roundw
        case rel =>
          have hk2 : Kept (fun j => w.heap.size ≤ j) w2 (w2.setCell ⟨L, k, none⟩ (.string (strB x))) := (Kept.refl _ _).setCell _ _ (.inl (by rw [HL.out]; exact Nat.le_refl _))
          refine ⟨k + 1, xs ++ [x], s', by omega, by go_num, HN.out, fun y hy => ?_, ?_, hkeep.out _ _ _ HS2.out hk2, (HK.out.trans HK2.out).trans' hk2 (fun i hi => .inr hi), ?_⟩
          · rcases List.mem_append.1 hy with h | h
            · exact HWF.out y h
            · rw [List.mem_singleton.1 h]; exact HWX.out
          · rw [← HSET.out, ← HL.out]; exact HR2.out.set k x
          · rw [setCell_size]; exact Nat.lt_of_lt_of_le HSZ.out HK2.out.size
        case measure => simp [intOf]; omega
    · obtain rfl : k = n := by omega
      go_wp2
      go_ret
      rw [HRUN.out]
      have hr := HROW.out
      rw [Nat.sub_self, List.replicate_zero, List.append_nil] at hr
      have ho := hr.own (B := w.heap.size) (by rw [HL.out]; exact Nat.le_refl _) HWF.out (by rw [HXL.out]; exact hnm)
      rw [HXL.out] at ho
      exact ⟨⟨_, _, _, rfl, ho⟩, HST2.out, HK.out⟩
end Go.Proofs.YtpobfgokikfmbaaGreatDoor

set_option linter.unusedSimpArgs false
set_option linter.unusedVariables false
set_option maxRecDepth 8000
namespace Go.Proofs.YtpobfgokikfmbaaGreatDoor
open Go.RowKit Go.WideShapes Col
namespace Col
/-- Does one text stand ahead of another? -/
def tls (s t : List Nat) : Bool := Op.bytesLess (strB s).toList (strB t).toList
/-- Texts that rise, the first k of them. -/
def rising : List (List Nat) → Bool
  | [] => true
  | [_] => true
  | s :: t :: r => tls s t && rising (t :: r)
theorem rising_get {l : List (List Nat)} (h : rising l = true) : ∀ (i : Nat) (s t : List Nat), l[i]? = some s → l[i + 1]? = some t → tls s t = true := by
  induction l with
  | nil => intro i s t h1; simp at h1
  | cons a r ih =>
    intro i s t h1 h2
    rcases r with _ | ⟨b, r⟩
    · simp at h2
    · rw [rising, Bool.and_eq_true] at h
      rcases i with _ | i
      · simp at h1 h2; subst h1; subst h2; exact h.1
      · exact ih h.2 i s t (by simpa using h1) (by simpa using h2)
theorem rising_of {l : List (List Nat)} (h : ∀ (i : Nat) (s t : List Nat), l[i]? = some s → l[i + 1]? = some t → tls s t = true) : rising l = true := by
  induction l with
  | nil => rfl
  | cons a r ih =>
    rcases r with _ | ⟨b, r⟩
    · rfl
    · rw [rising, Bool.and_eq_true]
      exact ⟨h 0 a b rfl rfl, ih fun i s t h1 h2 => h (i + 1) s t (by simpa using h1) (by simpa using h2)⟩
/-- The texts that there are. -/
def rU (q : List Nat) : Option (List (List Nat) × List Nat) := (uP 4096 q).bind fun p => (runS (tP 32) p.1 p.2).bind fun r => if rising r.1 = true then some r else none
theorem rU_no1 {q : List Nat} (h : uP 4096 q = none) : rU q = none := by unfold rU; rw [h]; rfl
theorem rU_no2 {q r : List Nat} {n : Nat} (h : uP 4096 q = some (n, r)) (h2 : runS (tP 32) n r = none) : rU q = none := by unfold rU; rw [h]; simp [h2]
theorem rU_no3 {q r r2 : List Nat} {n : Nat} {ts : List (List Nat)} (h : uP 4096 q = some (n, r)) (h2 : runS (tP 32) n r = some (ts, r2)) (h3 : rising ts = false) : rU q = none := by unfold rU; rw [h]; simp [h2, h3]
theorem rU_yes {q r r2 : List Nat} {n : Nat} {ts : List (List Nat)} (h : uP 4096 q = some (n, r)) (h2 : runS (tP 32) n r = some (ts, r2)) (h3 : rising ts = true) : rU q = some (ts, r2) := by unfold rU; rw [h]; simp [h2, h3]
theorem tP_left {most : Nat} {q s r : List Nat} (h : tP most q = some (s, r)) : r.length ≤ q.length ∧ (∀ x ∈ s, x ∈ q) ∧ s.length ≤ most := by
  obtain ⟨n, q', h1, h2, rfl, rfl⟩ := tP_some h
  obtain ⟨-, -, m, -, hm, -⟩ := grp_lt _ _ _ _ (uP_some h1).1
  subst hm
  refine ⟨by rw [List.length_drop, List.length_drop]; omega, fun x hx => List.mem_of_mem_drop (List.mem_of_mem_take hx), by have := (uP_some h1).2; rw [List.length_take]; omega⟩
end Col
theorem lss_t (s t : List Nat) (b : Bool) (h : tls s t = b) (w : World) : (binOp .lss 9 (.string (strB s)) (.string (strB t))).run Tryz.prog w = .ok (.bool b) w := by
  subst h; rw [binOp_string_lss]; rfl
theorem ix_str (g off m c k : Nat) (h : k < m) (w : World) : (Instr.indexAt 41 (.slice (some ⟨g, off, none⟩) m c) (.int .i64 (k : Int))).run Tryz.prog w = .ok (.pointer (some ⟨g, off + k, none⟩)) w := by
  have h1 : (k : Int) < (m : Int) := by omega
  first | (go_simp; done) | (go_simp; intro h; exfalso; omega)
theorem yb_ixt {ops : Array Oper} {S : World → Prop} {op : Oper} {a : Act} (hw : Region.wanted op (yielded ops a.tmps) = true) (x y : Operand) (ho : op.op = .indexAddr 41 x y) (g off m c k : Nat) (hx : a.eval x = .slice (some ⟨g, off, none⟩) m c) (hy : a.eval y = .int .i64 (k : Int)) (h : k < m) : YieldsIf Tryz.prog ops S op (.pointer (some ⟨g, off + k, none⟩)) a :=
  .inl ⟨hw, fun w _ => by
    unfold execOp
    simp only [ho, hx, hy, Sem.run_bind, Sem.run_pure, Result.andThen_ok, ix_str g off m c k h w]⟩
theorem lv_t (w : World) (g j : Nat) (v : Value) (h : w.cell? ⟨g, j, none⟩ = some v) : (loadVar 9 ⟨g, j, none⟩).run Tryz.prog w = .ok v w := by
  go_simp
theorem yb_ldt {ops : Array Oper} {S : World → Prop} {op : Oper} {a : Act} (hw : Region.wanted op (yielded ops a.tmps) = true) (x : Operand) (ho : op.op = .load 9 x) (g j : Nat) (hx : a.eval x = .pointer (some ⟨g, j, none⟩)) (v : Value)
    (hS : ∀ w, S w → w.cell? ⟨g, j, none⟩ = some v) : YieldsIf Tryz.prog ops S op v a :=
  .inl ⟨hw, fun w hw' => by
    unfold execOp
    simp only [ho, hx, Instr.loadAt, Instr.sureAddr, Sem.run_bind, Sem.run_pure, Result.andThen_ok, lv_t w g j v (hS w hw')]⟩
/-- What readUnlike's function stands on. -/
structure US (g bx : Nat) (q : List Nat) (w : World) : Prop where
  rd : RdM g q w
  box : w.heap[bx]? = some (.cells #[.pointer (some ⟨g, 0, none⟩)] 51 (0, 0))
  n2 : g < bx
theorem US.keep {g bx : Nat} {q : List Nat} {w w' : World} {S : Nat → Prop} (h : US g bx q w) (hk : Kept S w w') (hS : ∀ k, S k → w.heap.size ≤ k ∨ (g < k ∧ k ≠ bx)) : US g bx q w' := by
  have hg := h.rd.1.glt
  have hb := (Array.getElem?_eq_some_iff.1 h.box).1
  exact ⟨⟨h.rd.1.high hk fun k hs => by have := hS k hs; omega, h.rd.2⟩, hk.heap h.box fun e => by have := hS _ e; omega, h.n2⟩
theorem US.cb {g bx : Nat} {q : List Nat} {w : World} (h : US g bx q w) : w.cell? ⟨bx, 0, none⟩ = some (.pointer (some ⟨g, 0, none⟩)) := by rw [cell_of_row _ _ _ _ _ _ h.box]; rfl
theorem US.blt {g bx : Nat} {q : List Nat} {w : World} (h : US g bx q w) : bx < w.heap.size := (Array.getElem?_eq_some_iff.1 h.box).1
set_option maxHeartbeats 1000000 in
theorem unlike_step (g bx : Nat) (q : List Nat) (w : World) (H : Hid (US g bx q w)) :
    Calls Tryz.prog 133 #[.pointer (some ⟨bx, 0, none⟩)] w (StepEndsT g (Only g) (US g bx) (tP 32 q) w) := by
  have cb := H.out.cb
  rcases hz : tP 32 q with _ | ⟨s, r⟩
  · have HT : Hid (Calls Tryz.prog 74 #[.pointer (some ⟨g, 0, none⟩), .int .i64 32] w (No g w)) := Lib.hid (text_no g 32 (by decide) q (Lib.hid hz) q.length (Lib.hid rfl) H.out.rd.2 w (Lib.hid H.out.rd.1))
    go_enter Tryz.func133, Tryz.ntmps133
    go_wp2_with (go_at_call 74; (with_reducible refine (HT.out).mono ?_); rintro e w2 ⟨rfl, h1, h2⟩)
    exact ⟨rfl, rfl, h1, h2⟩
  · have HT : Hid (Calls Tryz.prog 74 #[.pointer (some ⟨g, 0, none⟩), .int .i64 32] w (Yes g w (.string (strB s)) r)) := Lib.hid (text_yes g 32 (by decide) q s r (Lib.hid hz) (by have := H.out.rd.2; omega) w (Lib.hid H.out.rd.1))
    have HW : Hid (WfT s) := Lib.hid fun c hc => H.out.rd.1.lt c ((tP_left hz).2.1 c hc)
    have HL := Lib.hid (Nat.le_trans (tP_left hz).1 H.out.rd.2)
    have HNB : Hid (¬ Only g bx) := Lib.hid (fun e => by have e : bx = g := e; have := H.out.n2; omega)
    clear hz
    go_enter Tryz.func133, Tryz.ntmps133
    go_wp2_with (go_at_call 74; (with_reducible refine (HT.out).mono ?_); rintro e w2 hy; obtain ⟨rfl, HR2, HK2⟩ := Yes.rd hy; clear hy)
    go_ret
    exact ⟨rfl, HW.out, ⟨⟨HR2.out, HL.out⟩, HK2.out.heap H.out.box HNB.out, H.out.n2⟩, HK2.out⟩
def RUl (g bx n : Nat) (A : Option Addr) (cap : Nat) (l : List (List Nat)) (r : List Nat) (w : World) (v : Value) (wr : World) : Prop :=
  ∃ i : Nat, 1 ≤ i ∧ (i ≤ n ∨ i = 1) ∧ v = .int .i64 (i : Int) ∧ (∀ (j : Nat) (s t : List Nat), j + 1 < i → l[j]? = some s → l[j + 1]? = some t → tls s t = true) ∧ US g bx r wr ∧ OwnX wr w.heap.size A n cap l ∧ Kept (Only g) w wr
theorem OwnX.more {w : World} {B n cap : Nat} {A : Option Addr} {l : List (List Nat)} {B' : Nat} (h : OwnX w B A n cap l) (hB : B' ≤ B) : OwnX w B' A n cap l := by
  refine ⟨⟨h.1.1, ?_⟩, h.2⟩
  rcases h.1.2 with h1 | ⟨g, cap', cur, h1, hb, h2⟩
  · exact .inl h1
  · exact .inr ⟨g, cap', cur, h1, Nat.le_trans hB hb, h2⟩
theorem check_any (g C : Nat) (A : Option Addr) (q : List Nat) (b : Bool) (w : World) (H : Hid (RdA w g A C q)) :
    Calls Tryz.prog 51 #[.pointer (some ⟨g, 0, none⟩), .bool b] w fun e w' => if b = true then e = .returned (.tuple #[]) ∧ w = w' else e = .panicked [gu g] ∧ Gone w' g ∧ Kept (Only g) w w' := by
  cases b
  · exact check_false g C A q w H
  · exact check_true _ w
/-- How readUnlike ends. -/
def UnlEnds (g : Nat) (o : Option (List (List Nat) × List Nat)) (w : World) (e : Ending) (w' : World) : Prop := match o with
  | some p => (∃ A n cap, e = .returned (.slice A n cap) ∧ OwnX w' w.heap.size A n cap p.1) ∧ RdM g p.2 w' ∧ Kept (Only g) w w'
  | none => e = .panicked [gu g] ∧ Gone w' g ∧ Kept (Only g) w w'
set_option maxHeartbeats 4000000 in
theorem readUnlike_any (g : Nat) (q : List Nat) (w : World) (H : Hid (RdM g q w)) :
    Calls Tryz.prog 117 #[.pointer (some ⟨g, 0, none⟩)] w (UnlEnds g (rU q) w) := by
  obtain ⟨bx, w1, hbx, hw1, hrow1, hb1, hbx1⟩ := alloc_pt w (.pointer (some ⟨g, 0, none⟩)) 51
  have HU1 : Hid (US g bx q w1) := Lib.hid ⟨⟨H.out.1.high (S := fun _ => False) (Kept.of_below hb1) fun k hk => hk.elim, H.out.2⟩, hrow1, by rw [hbx]; exact H.out.1.glt⟩
  have HK1 : Hid (Kept (Only g) w w1) := Lib.hid (Kept.of_below hb1)
  have HBX := Lib.hid hbx
  have hc1 := HU1.out.cb
  rcases hu : uP 4096 q with _ | ⟨n, r⟩
  · have HN := Lib.hid (rU_no1 hu)
    have HU : Hid (Calls Tryz.prog 108 #[.pointer (some ⟨g, 0, none⟩), .int .u64 4096] w1 (No g w1)) := Lib.hid (uint_no g 4096 q (Lib.hid hu) q.length (Lib.hid rfl) H.out.2 w1 (Lib.hid HU1.out.rd.1))
    rw [HN.out]
    clear hu
    go_enter Tryz.func117, Tryz.ntmps117
    go_upto_region 1 with fail
    rw [← hw1, ← hbx]
    clear hw1 hbx hrow1 hb1 hbx1
    go_wp2_with (go_at_call 108; (with_reducible refine (HU.out).mono ?_); rintro e w2 ⟨rfl, h1, h2⟩)
    exact ⟨rfl, rfl, h1, HK1.out.trans h2⟩
  · have HU : Hid (Calls Tryz.prog 108 #[.pointer (some ⟨g, 0, none⟩), .int .u64 4096] w1 (Yes g w1 (.int .u64 (n : Int)) r)) := Lib.hid (uint_yes g 4096 n q r (Lib.hid hu) (by have := H.out.2; omega) w1 (Lib.hid HU1.out.rd.1))
    have hn : n ≤ 4096 := (uP_some hu).2
    have hni : IntKind.i64.wrap (n : Int) = (n : Int) := by rw [IntKind.wrap_i64]; omega
    have HUP := Lib.hid hu
    have HRL : Hid (r.length ≤ 1099511627776) := Lib.hid (by
      obtain ⟨-, -, m, -, hm, -⟩ := grp_lt _ _ _ _ (uP_some hu).1
      have := H.out.2; rw [hm, List.length_drop]; omega)
    clear hu
    go_enter Tryz.func117, Tryz.ntmps117
    go_upto_region 1 with fail
    rw [← hw1, ← hbx]
    clear hw1 hbx hrow1 hb1 hbx1
    go_upto_region 2 with (go_at_call 108; (with_reducible refine (HU.out).mono ?_); rintro e w2 hy; obtain ⟨rfl, HR2, HK2⟩ := Yes.rd hy; clear hy)
    have HNB : Hid (¬ Only g bx) := Lib.hid (fun e => by have e : bx = g := e; have := HU1.out.n2; omega)
    have HU2 : Hid (US g bx r w2) := Lib.hid ⟨⟨HR2.out, HRL.out⟩, HK2.out.heap HU1.out.box HNB.out, HU1.out.n2⟩
    have ht := timesT_any (tP 32) 133 #[] #[.pointer (some ⟨bx, 0, none⟩)] (fun _ _ => by first | rfl | kernel_rfl) n hn g (Only g) (US g bx) w2
      (Lib.hid fun k hk => by have hk : k = g := hk; subst hk; exact HU2.out.rd.1.glt)
      (Lib.hid fun s w1 w3 h hk => by
        refine h.keep hk fun k hk => ?_
        have := HU2.out.blt; have := HU2.out.n2
        omega)
      r (Lib.hid fun k xs s w1 _ _ h _ => unlike_step g bx s w1 (Lib.hid h)) HU2
    have HT := Lib.hid ht
    have HKA := Lib.hid (HK1.out.trans HK2.out)
    clear ht hc1
    rcases hr : runS (tP 32) n r with _ | ⟨l, r2⟩
    · have HN := Lib.hid (rU_no2 HUP.out hr)
      rw [hr] at HT
      rw [HN.out]
      clear hr
      go_wp2_with (go_at_call 132; (with_reducible refine (HT.out).mono ?_); rintro e w3 ⟨rfl, h1, h2⟩)
      exact ⟨rfl, rfl, h1, HKA.out.trans h2⟩
    · have HRUN := Lib.hid hr
      have HLN := Lib.hid (runS_len hr)
      rw [hr] at HT
      clear hr
      go_upto_region 3 with (go_at_call 132; (with_reducible refine (HT.out).mono ?_); rintro e w3 ⟨⟨A, m, cap, rfl, ho⟩, h1, h2⟩; obtain rfl : m = n := (by have h9 : m = l.length := ho.len; have := HLN.out; omega); have HOW := Lib.hid (ho.more (B' := w.heap.size) HKA.out.size); have HUS := Lib.hid h1; have HK3 := Lib.hid (HKA.out.trans h2); clear ho h1 h2)
      have HST : Hid (RUl g bx m A cap l r2 w (.int .i64 1) w3) := Lib.hid ⟨1, Nat.le_refl _, .inr rfl, rfl, fun j s t h => by omega, HUS.out, HOW.out, HK3.out⟩
      obtain ⟨n, hnm⟩ : ∃ n, n = m := ⟨_, rfl⟩
      subst hnm
      clear HOW HUS HK3
      go_wp2
      go_loopw [5] (fun v wr => RUl g bx n A cap l r2 w v wr) (fun v _ => n - (intOf v).toNat)
      case atStart => exact HST.out
      case round =>
        obtain ⟨i, hi1, hi2, rfl, hris, hus, how, hk⟩ := hrel
        have HU3 := Lib.hid hus; have HOW := Lib.hid how; have HK4 := Lib.hid hk; have HRIS := Lib.hid hris
        clear hus how hk hris HST
        by_cases hin : i < n
        · obtain ⟨j, hj⟩ : ∃ j, i = j + 1 := ⟨i - 1, by omega⟩
          have hll : l.length = n := HLN.out
          obtain ⟨s, hs⟩ : ∃ s, l[j]? = some s := ⟨_, List.getElem?_eq_getElem (by omega)⟩
          obtain ⟨t, ht⟩ : ∃ t, l[i]? = some t := ⟨_, List.getElem?_eq_getElem (by omega)⟩
          obtain ⟨g2, off, rfl, hg2, hcell⟩ := HOW.out.isAt.spot (by omega)
          have HCS := Lib.hid (hcell j s hs); have HCT := Lib.hid (hcell i t ht); have HG2 := Lib.hid hg2
          have HS := Lib.hid hs; have HTT := Lib.hid ht; have HJ := Lib.hid hj
          have HJN : Hid (j < n) := Lib.hid (by omega)
          have HSUB : Hid (∀ w9 : World, (binOp .sub 3 (.int .i64 (i : Int)) (.int .i64 1)).run Tryz.prog w9 = .ok (.int .i64 (j : Int)) w9) := Lib.hid fun w9 => by
            have := b_subN i 1 (by omega) (by omega) w9
            rw [show i - 1 = j by omega] at this; exact this
          clear hs ht hcell hg2 hj hll
          rcases hls : tls s t with _ | _
          · have HLS := Lib.hid hls
            have HN : Hid (rU q = none) := Lib.hid (rU_no3 HUP.out HRUN.out (by
              rcases hr : rising l with _ | _
              · rfl
              · have := rising_get hr j s t HS.out (HJ.out ▸ HTT.out)
                rw [HLS.out] at this; cases this))
            rw [HN.out]
            clear hls
            go_upto_region 6 with fail
            have hh0 : Below wr.heap.size wr wr.drew := (Below.refl _ _).drew
            refine wp_region_held_drew (S := fun w2 => Below wr.heap.size wr w2) (by kernel_rfl) hh0 (fun hHeld => ?_)
            refine wpAnyH_take (i := 0) (v := .pointer (some ⟨g, 0, none⟩)) rfl (by kernel_rfl) (by kernel_rfl) (by kernel_rfl) (fun _ _ _ h => h) (Or.inl ⟨by rfl, fun w hw => by have hc : w.cell? ⟨bx, 0, none⟩ = some (.pointer (some ⟨g, 0, none⟩)) := (hw.cell (p := ⟨bx, 0, none⟩) HU3.out.blt).trans HU3.out.cb; go_simp⟩) hHeld ?_
            try dsimp only
            try simp only [Act.put, List.getElem_toArray, List.getElem_cons_zero, List.getElem_cons_succ, List.setIfInBounds_toArray, List.set_cons_zero, List.set_cons_succ]
            refine wpAnyH_take (i := 1) (v := .slice (some ⟨g2, off, none⟩) n cap) rfl (by kernel_rfl) (by kernel_rfl) (by kernel_rfl) (fun _ _ _ h => h) (Or.inl ⟨by rfl, fun _ _ => rfl⟩) hHeld ?_
            try dsimp only
            try simp only [Act.put, List.getElem_toArray, List.getElem_cons_zero, List.getElem_cons_succ, List.setIfInBounds_toArray, List.set_cons_zero, List.set_cons_succ]
            refine wpAnyH_take (i := 2) (v := .int .i64 (i : Int)) rfl (by kernel_rfl) (by kernel_rfl) (by kernel_rfl) (fun _ _ _ h => h) (Or.inl ⟨by rfl, fun _ _ => rfl⟩) hHeld ?_
            try dsimp only
            try simp only [Act.put, List.getElem_toArray, List.getElem_cons_zero, List.getElem_cons_succ, List.setIfInBounds_toArray, List.set_cons_zero, List.set_cons_succ]
            refine wpAnyH_take (i := 3) (v := .int .i64 (j : Int)) rfl (by kernel_rfl) (by kernel_rfl) (by kernel_rfl) (fun _ _ _ h => h) (yb_bin rfl .sub 3 3 (.tmp 19) (.const (.int .i64 1)) rfl _ _ _ rfl rfl (fun _ => rfl) HSUB.out) hHeld ?_
            try dsimp only
            try simp only [Act.put, List.getElem_toArray, List.getElem_cons_zero, List.getElem_cons_succ, List.setIfInBounds_toArray, List.set_cons_zero, List.set_cons_succ]
            refine wpAnyH_take (i := 4) (v := .pointer (some ⟨g2, off + j, none⟩)) rfl (by kernel_rfl) (by kernel_rfl) (by kernel_rfl) (fun _ _ _ h => h) (yb_ixt rfl (.tmp 18) (.tmp 20) rfl g2 off n cap j rfl rfl HJN.out) hHeld ?_
            try dsimp only
            try simp only [Act.put, List.getElem_toArray, List.getElem_cons_zero, List.getElem_cons_succ, List.setIfInBounds_toArray, List.set_cons_zero, List.set_cons_succ]
            refine wpAnyH_take (i := 5) (v := .string (strB s)) rfl (by kernel_rfl) (by kernel_rfl) (by kernel_rfl) (fun _ _ _ h => h) (yb_ldt rfl (.tmp 21) rfl g2 (off + j) rfl _ (fun w hw => (hw.cell (p := ⟨g2, off + j, none⟩) HG2.out).trans HCS.out)) hHeld ?_
            try dsimp only
            try simp only [Act.put, List.getElem_toArray, List.getElem_cons_zero, List.getElem_cons_succ, List.setIfInBounds_toArray, List.set_cons_zero, List.set_cons_succ]
            refine wpAnyH_take (i := 6) (v := .slice (some ⟨g2, off, none⟩) n cap) rfl (by kernel_rfl) (by kernel_rfl) (by kernel_rfl) (fun _ _ _ h => h) (Or.inl ⟨by rfl, fun _ _ => rfl⟩) hHeld ?_
            try dsimp only
            try simp only [Act.put, List.getElem_toArray, List.getElem_cons_zero, List.getElem_cons_succ, List.setIfInBounds_toArray, List.set_cons_zero, List.set_cons_succ]
            refine wpAnyH_take (i := 7) (v := .int .i64 (i : Int)) rfl (by kernel_rfl) (by kernel_rfl) (by kernel_rfl) (fun _ _ _ h => h) (Or.inl ⟨by rfl, fun _ _ => rfl⟩) hHeld ?_
            try dsimp only
            try simp only [Act.put, List.getElem_toArray, List.getElem_cons_zero, List.getElem_cons_succ, List.setIfInBounds_toArray, List.set_cons_zero, List.set_cons_succ]
            refine wpAnyH_take (i := 8) (v := .pointer (some ⟨g2, off + i, none⟩)) rfl (by kernel_rfl) (by kernel_rfl) (by kernel_rfl) (fun _ _ _ h => h) (yb_ixt rfl (.tmp 23) (.tmp 24) rfl g2 off n cap i rfl rfl hin) hHeld ?_
            try dsimp only
            try simp only [Act.put, List.getElem_toArray, List.getElem_cons_zero, List.getElem_cons_succ, List.setIfInBounds_toArray, List.set_cons_zero, List.set_cons_succ]
            refine wpAnyH_take (i := 9) (v := .string (strB t)) rfl (by kernel_rfl) (by kernel_rfl) (by kernel_rfl) (fun _ _ _ h => h) (yb_ldt rfl (.tmp 25) rfl g2 (off + i) rfl _ (fun w hw => (hw.cell (p := ⟨g2, off + i, none⟩) HG2.out).trans HCT.out)) hHeld ?_
            try dsimp only
            try simp only [Act.put, List.getElem_toArray, List.getElem_cons_zero, List.getElem_cons_succ, List.setIfInBounds_toArray, List.set_cons_zero, List.set_cons_succ]
            refine wpAnyH_take (i := 10) (v := .bool false) rfl (by kernel_rfl) (by kernel_rfl) (by kernel_rfl) (fun _ _ _ h => h) (yb_bin rfl .lss 9 9 (.tmp 22) (.tmp 26) rfl _ _ _ rfl rfl (fun _ => rfl) (lss_t s t false HLS.out)) hHeld ?_
            try dsimp only
            try simp only [Act.put, List.getElem_toArray, List.getElem_cons_zero, List.getElem_cons_succ, List.setIfInBounds_toArray, List.set_cons_zero, List.set_cons_succ]
            refine wpAnyH_ready (rs := [11]) (by kernel_rfl) (by simp) (AllReadyH.cons rfl (fun K hK => ?_) AllReadyH.nil)
            go_simp
            obtain ⟨A9, C9, hRA⟩ := HU3.out.rd.1
            refine (check_false g C9 A9 r2 _ (Lib.hid (hRA.drewN 1))).mono ?_
            rintro e w5 ⟨rfl, h1, h2⟩
            exact ⟨rfl, rfl, h1, HK4.out.drew.trans h2⟩
          · have HLS := Lib.hid hls
            clear hls
            go_upto_region 6 with fail
            have hh0 : Below wr.heap.size wr wr.drew := (Below.refl _ _).drew
            refine wp_region_held_drew (S := fun w2 => Below wr.heap.size wr w2) (by kernel_rfl) hh0 (fun hHeld => ?_)
            refine wpAnyH_take (i := 0) (v := .pointer (some ⟨g, 0, none⟩)) rfl (by kernel_rfl) (by kernel_rfl) (by kernel_rfl) (fun _ _ _ h => h) (Or.inl ⟨by rfl, fun w hw => by have hc : w.cell? ⟨bx, 0, none⟩ = some (.pointer (some ⟨g, 0, none⟩)) := (hw.cell (p := ⟨bx, 0, none⟩) HU3.out.blt).trans HU3.out.cb; go_simp⟩) hHeld ?_
            try dsimp only
            try simp only [Act.put, List.getElem_toArray, List.getElem_cons_zero, List.getElem_cons_succ, List.setIfInBounds_toArray, List.set_cons_zero, List.set_cons_succ]
            refine wpAnyH_take (i := 1) (v := .slice (some ⟨g2, off, none⟩) n cap) rfl (by kernel_rfl) (by kernel_rfl) (by kernel_rfl) (fun _ _ _ h => h) (Or.inl ⟨by rfl, fun _ _ => rfl⟩) hHeld ?_
            try dsimp only
            try simp only [Act.put, List.getElem_toArray, List.getElem_cons_zero, List.getElem_cons_succ, List.setIfInBounds_toArray, List.set_cons_zero, List.set_cons_succ]
            refine wpAnyH_take (i := 2) (v := .int .i64 (i : Int)) rfl (by kernel_rfl) (by kernel_rfl) (by kernel_rfl) (fun _ _ _ h => h) (Or.inl ⟨by rfl, fun _ _ => rfl⟩) hHeld ?_
            try dsimp only
            try simp only [Act.put, List.getElem_toArray, List.getElem_cons_zero, List.getElem_cons_succ, List.setIfInBounds_toArray, List.set_cons_zero, List.set_cons_succ]
            refine wpAnyH_take (i := 3) (v := .int .i64 (j : Int)) rfl (by kernel_rfl) (by kernel_rfl) (by kernel_rfl) (fun _ _ _ h => h) (yb_bin rfl .sub 3 3 (.tmp 19) (.const (.int .i64 1)) rfl _ _ _ rfl rfl (fun _ => rfl) HSUB.out) hHeld ?_
            try dsimp only
            try simp only [Act.put, List.getElem_toArray, List.getElem_cons_zero, List.getElem_cons_succ, List.setIfInBounds_toArray, List.set_cons_zero, List.set_cons_succ]
            refine wpAnyH_take (i := 4) (v := .pointer (some ⟨g2, off + j, none⟩)) rfl (by kernel_rfl) (by kernel_rfl) (by kernel_rfl) (fun _ _ _ h => h) (yb_ixt rfl (.tmp 18) (.tmp 20) rfl g2 off n cap j rfl rfl HJN.out) hHeld ?_
            try dsimp only
            try simp only [Act.put, List.getElem_toArray, List.getElem_cons_zero, List.getElem_cons_succ, List.setIfInBounds_toArray, List.set_cons_zero, List.set_cons_succ]
            refine wpAnyH_take (i := 5) (v := .string (strB s)) rfl (by kernel_rfl) (by kernel_rfl) (by kernel_rfl) (fun _ _ _ h => h) (yb_ldt rfl (.tmp 21) rfl g2 (off + j) rfl _ (fun w hw => (hw.cell (p := ⟨g2, off + j, none⟩) HG2.out).trans HCS.out)) hHeld ?_
            try dsimp only
            try simp only [Act.put, List.getElem_toArray, List.getElem_cons_zero, List.getElem_cons_succ, List.setIfInBounds_toArray, List.set_cons_zero, List.set_cons_succ]
            refine wpAnyH_take (i := 6) (v := .slice (some ⟨g2, off, none⟩) n cap) rfl (by kernel_rfl) (by kernel_rfl) (by kernel_rfl) (fun _ _ _ h => h) (Or.inl ⟨by rfl, fun _ _ => rfl⟩) hHeld ?_
            try dsimp only
            try simp only [Act.put, List.getElem_toArray, List.getElem_cons_zero, List.getElem_cons_succ, List.setIfInBounds_toArray, List.set_cons_zero, List.set_cons_succ]
            refine wpAnyH_take (i := 7) (v := .int .i64 (i : Int)) rfl (by kernel_rfl) (by kernel_rfl) (by kernel_rfl) (fun _ _ _ h => h) (Or.inl ⟨by rfl, fun _ _ => rfl⟩) hHeld ?_
            try dsimp only
            try simp only [Act.put, List.getElem_toArray, List.getElem_cons_zero, List.getElem_cons_succ, List.setIfInBounds_toArray, List.set_cons_zero, List.set_cons_succ]
            refine wpAnyH_take (i := 8) (v := .pointer (some ⟨g2, off + i, none⟩)) rfl (by kernel_rfl) (by kernel_rfl) (by kernel_rfl) (fun _ _ _ h => h) (yb_ixt rfl (.tmp 23) (.tmp 24) rfl g2 off n cap i rfl rfl hin) hHeld ?_
            try dsimp only
            try simp only [Act.put, List.getElem_toArray, List.getElem_cons_zero, List.getElem_cons_succ, List.setIfInBounds_toArray, List.set_cons_zero, List.set_cons_succ]
            refine wpAnyH_take (i := 9) (v := .string (strB t)) rfl (by kernel_rfl) (by kernel_rfl) (by kernel_rfl) (fun _ _ _ h => h) (yb_ldt rfl (.tmp 25) rfl g2 (off + i) rfl _ (fun w hw => (hw.cell (p := ⟨g2, off + i, none⟩) HG2.out).trans HCT.out)) hHeld ?_
            try dsimp only
            try simp only [Act.put, List.getElem_toArray, List.getElem_cons_zero, List.getElem_cons_succ, List.setIfInBounds_toArray, List.set_cons_zero, List.set_cons_succ]
            refine wpAnyH_take (i := 10) (v := .bool true) rfl (by kernel_rfl) (by kernel_rfl) (by kernel_rfl) (fun _ _ _ h => h) (yb_bin rfl .lss 9 9 (.tmp 22) (.tmp 26) rfl _ _ _ rfl rfl (fun _ => rfl) (lss_t s t true HLS.out)) hHeld ?_
            try dsimp only
            try simp only [Act.put, List.getElem_toArray, List.getElem_cons_zero, List.getElem_cons_succ, List.setIfInBounds_toArray, List.set_cons_zero, List.set_cons_succ]
            refine wpAnyH_ready (rs := [11]) (by kernel_rfl) (by simp) (AllReadyH.cons rfl (fun K hK => ?_) AllReadyH.nil)
            go_simp
            refine (check_true _ _).mono ?_
            rintro e w5 ⟨rfl, rfl⟩
            refine hK.out _ _ hHeld (fun hHeld => ?_)
            clear hK K
            refine wpAnyH_done (by kernel_rfl) ?_ _
            clear hHeld hh0
            have HU4 : Hid (US g bx r2 wr.drew) := Lib.hid (HU3.out.keep (S := fun _ => False) ((Kept.refl _ _).drew) fun k hk => hk.elim)
            have HOW4 := Lib.hid (HOW.out.keep ((Below.refl wr.heap.size wr).drew))
            go_wp2
            go_roundw
            case rel => exact ⟨i + 1, by omega, .inl (by omega), by go_num, fun j2 s2 t2 h1 h2 h3 => by
              by_cases e : j2 + 1 = i
              · have e2 : j2 = j := by have := HJ.out; omega
                subst e2
                rw [HS.out] at h2; injection h2 with h2; subst h2
                rw [e, HTT.out] at h3; injection h3 with h3; subst h3
                exact HLS.out
              · exact HRIS.out j2 s2 t2 (by omega) h2 h3, HU4.out, HOW4.out, HK4.out.drew⟩
            case measure => simp [intOf]; omega
        · have HN : Hid (rU q = some (l, r2)) := Lib.hid (rU_yes HUP.out HRUN.out (rising_of fun j s t h1 h2 => HRIS.out j s t (by
            have h3 := (List.getElem?_eq_some_iff.1 h2).1
            have := HLN.out; omega) h1 h2))
          go_wp2
          go_ret
          rw [HN.out]
          exact ⟨⟨A, n, cap, rfl, HOW.out⟩, HU3.out.rd, HK4.out⟩
end Go.Proofs.YtpobfgokikfmbaaGreatDoor

set_option linter.unusedSimpArgs false
set_option linter.unusedVariables false
set_option maxRecDepth 8000
namespace Go.Proofs.YtpobfgokikfmbaaGreatDoor
open Go.RowKit Go.WideShapes Col

theorem tls_dec (s t : List Nat) : tls s t = decide ((strB s).toList < (strB t).toList) := bytesLess_eq _ _
theorem tls_irr (s : List Nat) : tls s s = false := by rw [tls_dec, decide_eq_false_iff_not]; exact List.lt_irrefl _
theorem tls_tr {s t u : List Nat} (h1 : tls s t = true) (h2 : tls t u = true) : tls s u = true := by
  rw [tls_dec, decide_eq_true_eq] at h1 h2 ⊢
  exact List.lt_trans h1 h2
theorem tls_asy {s t : List Nat} (h : tls s t = true) : tls t s = false := by
  rcases h2 : tls t s with _ | _
  · rfl
  · have := tls_tr h h2; rw [tls_irr] at this; cases this
theorem tls_tot {s t : List Nat} (hs : WfT s) (ht : WfT t) (h1 : tls s t = false) (h2 : tls t s = false) : s = t := by
  rw [tls_dec, decide_eq_false_iff_not] at h1 h2
  have e : (strB s).toList = (strB t).toList := List.le_antisymm (List.not_lt.1 h2) (List.not_lt.1 h1)
  refine strB_inj hs ht ?_
  rw [Lib.toList_data, Lib.toList_data] at e
  exact ByteArray.ext (Array.ext' e)
/-- Texts that rise. -/
def Rise (l : List (List Nat)) : Prop := l.Pairwise fun s t => tls s t = true
theorem rise_ext {l m : List (List Nat)} (hl : Rise l) (hm : Rise m) (h : ∀ y, y ∈ l ↔ y ∈ m) : l = m := by
  induction l generalizing m with
  | nil =>
    rcases m with _ | ⟨b, m⟩
    · rfl
    · have := (h b).2 (by simp); cases this
  | cons a l ih =>
    rcases m with _ | ⟨b, m⟩
    · have := (h a).1 (by simp); cases this
    · rw [Rise, List.pairwise_cons] at hl hm
      have hab : a = b := by
        rcases List.mem_cons.1 ((h a).1 (by simp)) with e | e
        · exact e
        · rcases List.mem_cons.1 ((h b).2 (by simp)) with e2 | e2
          · exact e2.symm
          · have h1 := hm.1 a e; have h2 := hl.1 b e2
            have := tls_tr h1 h2; rw [tls_irr] at this; cases this
      subst hab
      rw [ih hl.2 hm.2 fun y => ?_]
      constructor
      · intro hy
        rcases List.mem_cons.1 ((h y).1 (by simp [hy])) with e | e
        · subst e; have := hl.1 y hy; rw [tls_irr] at this; cases this
        · exact e
      · intro hy
        rcases List.mem_cons.1 ((h y).2 (by simp [hy])) with e | e
        · subst e; have := hm.1 y hy; rw [tls_irr] at this; cases this
        · exact e
/-- A text put into its place among texts that rise. -/
def insU (x : List Nat) (all : List (List Nat)) : List (List Nat) := all.filter (fun a => tls a x) ++ x :: all.filter (fun a => tls x a)
theorem insU_rise {x : List Nat} {all : List (List Nat)} (h : Rise all) : Rise (insU x all) := by
  unfold insU
  refine List.pairwise_append.2 ⟨h.filter _, List.pairwise_cons.2 ⟨fun a ha => (List.mem_filter.1 ha).2, h.filter _⟩, fun a ha b hb => ?_⟩
  have h1 := (List.mem_filter.1 ha).2
  rcases List.mem_cons.1 hb with e | e
  · subst e; exact h1
  · exact tls_tr h1 (List.mem_filter.1 e).2
theorem insU_mem {x y : List Nat} {all : List (List Nat)} (hx : WfT x) (hw : ∀ a ∈ all, WfT a) : y ∈ insU x all ↔ y = x ∨ y ∈ all := by
  unfold insU
  rw [List.mem_append, List.mem_cons, List.mem_filter, List.mem_filter]
  constructor
  · rintro (h | h | h)
    · exact .inr h.1
    · exact .inl h
    · exact .inr h.1
  · rintro (h | h)
    · exact .inr (.inl h)
    · rcases h1 : tls y x with _ | _
      · rcases h2 : tls x y with _ | _
        · exact .inr (.inl (tls_tot (hw y h) hx h1 h2))
        · exact .inr (.inr ⟨h, rfl⟩)
      · exact .inl ⟨h, rfl⟩
theorem snoc_ind {α : Type} {Q : List α → Prop} (nil : Q []) (append_singleton : ∀ (l : List α) (x : α), Q l → Q (l ++ [x])) (l : List α) : Q l := by
  have h : ∀ m : List α, Q m.reverse := by
    intro m
    induction m with
    | nil => exact nil
    | cons a r ih => rw [List.reverse_cons]; exact append_singleton _ a ih
  have := h l.reverse
  rwa [List.reverse_reverse] at this
/-- The texts that there are, rising, each once. -/
def uqL (l : List (List Nat)) : List (List Nat) := l.foldl (fun all x => insU x all) []
theorem uqL_snoc (l : List (List Nat)) (x : List Nat) : uqL (l ++ [x]) = insU x (uqL l) := by unfold uqL; rw [List.foldl_append]; rfl
theorem uqL_facts (l : List (List Nat)) (hw : ∀ x ∈ l, WfT x) : Rise (uqL l) ∧ (∀ y, y ∈ uqL l ↔ y ∈ l) := by
  induction l using snoc_ind with
  | nil => exact ⟨List.Pairwise.nil, fun y => Iff.rfl⟩
  | append_singleton l x ih =>
    obtain ⟨h1, h2⟩ := ih fun y hy => hw y (by simp [hy])
    rw [uqL_snoc]
    refine ⟨insU_rise h1, fun y => ?_⟩
    rw [insU_mem (hw x (by simp)) (fun a ha => hw a (by simp [(h2 a).1 ha])), List.mem_append, List.mem_singleton, h2]
    constructor <;> (rintro (h | h) <;> simp [h])
theorem uqL_wf {l : List (List Nat)} (hw : ∀ x ∈ l, WfT x) : ∀ x ∈ uqL l, WfT x := fun x hx => hw x (((uqL_facts l hw).2 x).1 hx)
theorem uqL_len (l : List (List Nat)) : (uqL l).length ≤ l.length := by
  induction l using snoc_ind with
  | nil => exact Nat.le_refl _
  | append_singleton l x ih =>
    rw [uqL_snoc, List.length_append, List.length_singleton]
    unfold insU
    rw [List.length_append, List.length_cons]
    have : ((uqL l).filter (fun a => tls a x)).length + ((uqL l).filter (fun a => tls x a)).length ≤ (uqL l).length := by
      generalize uqL l = m
      induction m with
      | nil => exact Nat.le_refl _
      | cons a m ih2 =>
        rw [List.filter_cons, List.filter_cons]
        rcases h1 : tls a x with _ | _
        · rcases h2 : tls x a with _ | _ <;> simp <;> omega
        · rw [tls_asy h1]; simp; omega
    omega
/-- How far the first k of the texts that rise have been gone through, to put one in. -/
def insK (x : List Nat) (all : List (List Nat)) (k : Nat) : List (List Nat) × Bool :=
  let m := all.take k
  let d := m.any fun a => !tls a x
  (m.filter (fun a => tls a x) ++ ((if d then [x] else []) ++ m.filter (fun a => tls x a)), d)
theorem insK_zero (x : List Nat) (all : List (List Nat)) : insK x all 0 = ([], false) := by unfold insK; simp
theorem insK_end (x : List Nat) (all : List (List Nat)) : (if (insK x all all.length).2 then (insK x all all.length).1 else (insK x all all.length).1 ++ [x]) = insU x all := by
  unfold insK insU
  rw [List.take_length]
  rcases h : all.any (fun a => !tls a x) with _ | _
  · have h2 : all.filter (fun a => tls x a) = [] := by
      rw [List.filter_eq_nil_iff]
      intro a ha h3
      have h4 : (!tls a x) = false := by
        have := List.any_eq_false.1 h a ha; simpa using this
      rw [tls_asy h3] at h4; cases h4
    simp [h, h2]
  · simp [h]
/-- One step of it. -/
theorem insK_step {x a : List Nat} {all : List (List Nat)} {k : Nat} (hr : Rise all) (hx : WfT x) (ha : WfT a) (hk : all[k]? = some a) :
    insK x all (k + 1) = (let p := insK x all k
      let q := if (!p.2 && !tls a x) = true then (p.1 ++ [x], true) else p
      if a = x then q else (q.1 ++ [a], q.2)) := by
  have hlow : ∀ b ∈ all.take k, tls b a = true := fun b hb => by
    obtain ⟨j, hj⟩ := List.getElem?_of_mem hb
    rw [List.getElem?_take] at hj
    split at hj
    · rename_i hjk
      obtain ⟨hj1, hj2⟩ := List.getElem?_eq_some_iff.1 hj
      obtain ⟨hk1, hk2⟩ := List.getElem?_eq_some_iff.1 hk
      have := List.pairwise_iff_getElem.1 hr j k hj1 hk1 hjk
      rw [hj2, hk2] at this; exact this
    · cases hj
  have e : all.take (k + 1) = all.take k ++ [a] := by rw [List.take_add_one, hk]; rfl
  unfold insK
  rw [e]
  generalize all.take k = m at hlow ⊢
  simp only [List.filter_append, List.any_append]
  by_cases hax : a = x
  · subst hax
    have hd : m.any (fun b => !tls b a) = false := by
      rw [List.any_eq_false]; intro b hb; rw [hlow b hb]; decide
    have hg : m.filter (fun b => tls a b) = [] := by
      rw [List.filter_eq_nil_iff]; intro b hb; rw [tls_asy (hlow b hb)]; decide
    simp [hd, hg, tls_irr]
  · rcases h1 : tls a x with _ | _
    · have h2 : tls x a = true := by
        rcases h2 : tls x a with _ | _
        · exact absurd (tls_tot ha hx h1 h2) hax
        · rfl
      rcases hd : m.any (fun b => !tls b x) with _ | _
      · have hg : m.filter (fun b => tls x b) = [] := by
          rw [List.filter_eq_nil_iff]
          intro b hb h3
          have h4 : (!tls b x) = false := by
            have := List.any_eq_false.1 hd b hb; simpa using this
          rw [tls_asy h3] at h4; cases h4
        simp [hd, hg, h1, h2, hax]
      · simp [hd, h1, h2, hax]
    · have h2 := tls_asy h1
      have hd : m.any (fun b => !tls b x) = false := by
        rw [List.any_eq_false]; intro b hb; rw [tls_tr (hlow b hb) h1]; decide
      have hg : m.filter (fun b => tls x b) = [] := by
        rw [List.filter_eq_nil_iff]; intro b hb; rw [tls_asy (tls_tr (hlow b hb) h1)]; decide
      simp [hd, hg, h1, h2, hax]
end Go.Proofs.YtpobfgokikfmbaaGreatDoor
