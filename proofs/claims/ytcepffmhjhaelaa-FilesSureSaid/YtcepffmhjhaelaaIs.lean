/-
  The law FilesSure: walked.
-/
import Derived.Test.YtcepffmhjhaelaaIi
import Derived.Test.YtcepffmhjhaelaaFk
import Derived.Test.YtcepffmhjhaelaaFq
set_option linter.unusedSimpArgs false
set_option linter.unusedVariables false
namespace Go.Proofs.Ytcepffmhjhaelaa
open Go.RowKit Go.WideShapes

theorem yieldsIf_conv {ops : Array Oper} {S : World → Prop} {op : Oper} {a : Act} (hw : Region.wanted op (yielded ops a.tmps) = true) (x : Operand) (ho : op.op = .convert 32 9 x) (v u : Value) (hx : a.eval x = v)
    (h : ∀ w, S w → (convert 32 9 v).run Try.prog w = .ok u w) : YieldsIf Try.prog ops S op u a :=
  .inl ⟨hw, fun w hw' => by
    unfold execOp
    simp only [ho, hx, Sem.run_bind, Sem.run_pure, h w hw', Result.andThen_ok]⟩
theorem form_a_K : formK { data := #[97] } = true := by kernel_rfl
theorem form_b_K : formK { data := #[98] } = true := by kernel_rfl
theorem there_one {x : Fil} {t : ByteArray} (e : x.name = t) (hs : t.size ≤ 4611686018427387904) (hf : formK t = true) : Hid (There [x] t 0 x) := by
  subst e
  refine Lib.hid ⟨hs, hf, ⟨Nat.zero_le _, fun k y hk => by omega, fun k y _ hy => ?_⟩, rfl, ck_self _⟩
  rcases k with _ | k
  · simp at hy; subst hy; rw [ck_self]; decide
  · simp at hy
theorem one_set (x y : Fil) : [x].set 0 y = [y] := rfl
theorem sum_one (nm : ByteArray) (A : Option Addr) (cap : Nat) (l : List Nat) (du : Nat) : sumN [⟨nm, A, cap, l, du⟩] = l.length := by simp [sumN]
theorem place_ab {A : Option Addr} {cap : Nat} {l : List Nat} {du : Nat} : Place [⟨{ data := #[97] }, A, cap, l, du⟩] { data := #[98] } 1 := by
  refine ⟨Nat.le_refl _, fun k y hk hy => ?_, fun k y hk hy => ?_⟩
  · obtain rfl : k = 0 := by omega
    simp at hy; subst hy
    show cmpK { data := #[97] } { data := #[98] } < 0
    rw [show cmpK { data := #[97] } { data := #[98] } = -1 by kernel_rfl]; decide
  · rw [List.getElem?_eq_none (by simpa using hk)] at hy; cases hy
theorem place_bb {A : Option Addr} {cap : Nat} {l : List Nat} {du : Nat} {x : Fil} : Place ([x, ⟨{ data := #[98] }, A, cap, l, du⟩].eraseIdx 0) { data := #[98] } 0 :=
  (there_one (x := ⟨{ data := #[98] }, A, cap, l, du⟩) (t := { data := #[98] }) rfl (by decide) form_b_K).out.place
theorem ins_ab (x y : Fil) : ins [x] 1 y = [x, y] := rfl
theorem set_ab (x y z : Fil) : [x, y].set 1 z = [x, z] := rfl
theorem there_ab_b {A B : Option Addr} {cap cap' : Nat} {l m : List Nat} {du dv : Nat} : There [⟨{ data := #[97] }, A, cap, l, du⟩, ⟨{ data := #[98] }, B, cap', m, dv⟩] { data := #[98] } 1 ⟨{ data := #[98] }, B, cap', m, dv⟩ := by
  refine ⟨by decide, form_b_K, ⟨by simp, fun k y hk hy => ?_, fun k y hk hy => ?_⟩, rfl, ck_self _⟩
  · obtain rfl : k = 0 := by omega
    simp at hy; subst hy
    show cmpK { data := #[97] } { data := #[98] } < 0
    rw [show cmpK { data := #[97] } { data := #[98] } = -1 by kernel_rfl]; decide
  · rcases k with _ | _ | k
    · omega
    · simp at hy; subst hy; show ¬ cmpK { data := #[98] } { data := #[98] } < 0; rw [ck_self]; decide
    · simp at hy
theorem there_ab_a {A B : Option Addr} {cap cap' : Nat} {l m : List Nat} {du dv : Nat} : There [⟨{ data := #[97] }, A, cap, l, du⟩, ⟨{ data := #[98] }, B, cap', m, dv⟩] { data := #[97] } 0 ⟨{ data := #[97] }, A, cap, l, du⟩ := by
  refine ⟨by decide, form_a_K, ⟨by simp, fun k y hk hy => by omega, fun k y hk hy => ?_⟩, rfl, ck_self _⟩
  rcases k with _ | _ | k
  · simp at hy; subst hy; show ¬ cmpK { data := #[97] } { data := #[97] } < 0; rw [ck_self]; decide
  · simp at hy; subst hy; show ¬ cmpK { data := #[98] } { data := #[97] } < 0; rw [show cmpK { data := #[98] } { data := #[97] } = 1 by kernel_rfl]; decide
  · simp at hy
theorem called_ab (x : Fil) {A : Option Addr} {cap : Nat} {l : List Nat} {du : Nat} : called [x, ⟨{ data := #[98] }, A, cap, l, du⟩] 0 x { data := #[98] } 0 = [{ x with name := { data := #[98] } }] := by
  unfold called
  rw [if_pos (show isAt _ _ 0 = true by show (cmpK { data := #[98] } { data := #[98] } == 0) = true; rw [ck_self]; rfl)]; rfl
theorem sure_fall (t : ByteArray) (A : Option Addr) (cap : Nat) (l lq : List Nat) (keep : Int) (K : Nat) (hK : (keep < 0 ∧ K = lq.length) ∨ ((lq.length : Int) < keep ∧ K = lq.length) ∨ (0 ≤ keep ∧ keep ≤ lq.length ∧ keep = K)) :
    fallen [keep] 1 [⟨t, A, cap, l ++ lq, l.length⟩] = [⟨t, A, cap, l ++ lq.take K, l.length + K⟩] := by
  have hs : stay (l ++ lq).length l.length keep = l.length + K := by
    unfold stay; rw [List.length_append]
    split <;> omega
  have e : fallen [keep] 1 [⟨t, A, cap, l ++ lq, l.length⟩] = [fallF [keep] 0 ⟨t, A, cap, l ++ lq, l.length⟩] := rfl
  rw [e]
  have e2 : stayF [keep] 0 ⟨t, A, cap, l ++ lq, l.length⟩ = l.length + K := hs
  unfold fallF
  rw [e2, List.take_length_add_append]
section
variable {W : World} {g f fcap : Nat} {room armed ops : Int} {off : Bool} {r : List Value} {xs : List Fil} {w w' : World}
theorem sa_some {x : Fil} {r : List Fil} (h : SA W g room off armed ops (x :: r) w) : ∃ f fcap r', SN W g room off armed ops f fcap r' (x :: r) w := by
  rcases h with ⟨e, -⟩ | h
  · cases e
  · exact h
theorem sure_du {t : ByteArray} {A : Option Addr} {cap : Nat} {l lq : List Nat} (h : l.length + lq.length ≤ 1000) : ∀ (k : Nat) (x : Fil), [(⟨t, A, cap, l ++ lq, l.length⟩ : Fil)][k]? = some x → x.du ≤ x.l.length ∧ x.l.length ≤ 100000000 := fun k x hx => by
  rcases k with _ | k
  · simp at hx; subst hx; simp; omega
  · simp at hx
theorem sn_alloc (h : Hid (SN W g room off armed ops f fcap r xs w)) (o : Obj) : Hid (SN W g room off armed ops f fcap r xs (w.alloc o)) := Lib.hid (h.out.next ((Below.refl _ _).alloc (Nat.le_refl _) o))
theorem ints_new (w : World) (v : Int) : IntsOf (w.alloc (.cells #[.int .i64 v] 3)) (some ⟨w.heap.size, 0, none⟩) [v] := fun k u hu => by
  rcases k with _ | k
  · simp at hu; subst hu; exact ⟨w.heap.size, 0, rfl, by simp, by simp [World.cell?_alloc_new]⟩
  · simp at hu
theorem sn_ng (h : Hid (SN W g room off armed ops f fcap r xs w)) : (some (⟨w.heap.size, 0, none⟩ : Addr)).map (·.block) ≠ some g := by have := (Array.getElem?_eq_some_iff.1 h.out.st).1; intro e; simp at e; omega
theorem sn_nf (h : Hid (SN W g room off armed ops f fcap r xs w)) : (some (⟨w.heap.size, 0, none⟩ : Addr)).map (·.block) ≠ some f := by have := (Array.getElem?_eq_some_iff.1 h.out.fl).1; intro e; simp at e; omega
end
set_option maxHeartbeats 8000000 in
theorem filesSure_core (a : Option Addr) (l : List Nat) (n ca : Nat) (hn : Hid (n = l.length)) (hca : n ≤ ca) (b : Option Addr) (lq : List Nat) (m cb : Nat) (hm : Hid (m = lq.length)) (hcb : m ≤ cb) (keep : Int) (rn : Bool) (hn7 : n ≤ 140737488351232) (hm7 : m ≤ 140737488351232) (W : World) (HA : Hid (ByAt W a l)) (HBQ : Hid (ByAt W b lq)) :
    Calls Try.prog 4 #[.slice a n ca, .slice b m cb, .int .i64 keep, .bool rn] W fun e w' => e = .returned (.bool true) ∧ Below W.heap.size W w' := by
  by_cases hbig : 1000 < n + m
  · have hg : (1000 : Int) < (n : Int) + (m : Int) := by omega
    have HB := Lib.hid (Below.refl W.heap.size W)
    go_enter Try.func4, Try.ntmps4
    go_wp2_with (go_at_call 10; refine (awake_any _).mono ?_; rintro e w1 ⟨rfl, hb⟩; replace HB := Lib.hid (below_to HB.out hb); clear hb)
    go_ret
    exact ⟨rfl, HB.out⟩
  · have hg : ¬ (1000 : Int) < (n : Int) + (m : Int) := by omega
    have hnm : n + m ≤ 1000 := by omega
    clear hbig
    have hk : keep < 0 ∨ (0 ≤ keep ∧ (m : Int) < keep) ∨ (0 ≤ keep ∧ keep ≤ (m : Int)) := by omega
    cases rn
    · rcases hk with hk | hk | hk
      · skip
        have hkc : keep < 0 := hk
        have HFA := Lib.hid (fun A cap => sure_fall { data := #[97] } A cap l lq keep m (by have := hm.out; omega))
        obtain ⟨lr, hlr⟩ : ∃ lr, lr = l ++ lq.take m := ⟨_, rfl⟩
        rw [← hlr] at HFA
        have HLR : Hid (strB lr = strB l ++ strB (lq.take m)) := Lib.hid (by rw [hlr, strB_append])
        have HLL : Hid (lr.length = n + m) := Lib.hid (by rw [hlr, List.length_append, List.length_take]; have := hn.out; have := hm.out; omega)
        have hlr8 : lr.length ≤ 3000 := by have := HLL.out; omega
        obtain ⟨AQ, HQ, HQB⟩ := cut_to b m cb m (by omega) hcb
        have HQ := Lib.hid HQ
        have HQB := Lib.hid HQB
        clear hlr
        go_enter Try.func4, Try.ntmps4
        go_upto_region 16 with (first
          | (go_at_call 10; refine (awake_any _).mono ?_; rintro e w1 ⟨rfl, hb⟩; have HB1 := Lib.hid hb; clear hb)
          | (go_at_call 11; refine (new_any 5000 (by decide) _).mono ?_; rintro e w2 ⟨g, rfl, hgn, h0⟩; have HS0 := Lib.hid h0; have HGN := Lib.hid hgn; have HP0 : Hid (ByAt w2 a l) := Lib.hid (HA.out.keep (below_gb HB1.out h0.below (Nat.le_trans HB1.out.size hgn))); clear h0 hgn)
          | (go_at_call 13; refine (append_first (e := 0) (t := { data := #[97] }) (by decide) form_a_K _ HS0 op_none (Lib.hid (by decide)) (Lib.hid (by decide)) a n ca l hn HP0 (by decide) (by omega)).mono ?_; rintro z w3 ⟨rfl, f1, fc1, r1, A1, cap1, h1⟩; have HS1 := Lib.hid h1; clear h1 HS0)
          | (go_at_call 15; refine (sync_yes (by simp) _ HS1 (there_one (t := { data := #[97] }) rfl (by decide) form_a_K) op_none (Lib.hid (by decide)) (Lib.hid (by decide))).mono ?_; rintro z w4 ⟨rfl, h1⟩; rw [one_set] at h1; have HS2 := Lib.hid h1; have HP2 : Hid (ByAt w4 b lq) := Lib.hid (HBQ.out.keep (below_gb HB1.out h1.below (Nat.le_trans HB1.out.size HGN.out))); clear h1 HS1)
          | (go_at_call 13; refine (append_yes (e := 0) (by simp) (by rw [sum_one]; have := hn.out; omega) _ HS2 (there_one (t := { data := #[97] }) rfl (by decide) form_a_K) op_none (Lib.hid (by decide)) (Lib.hid (by decide)) b m cb lq hm HP2 (by decide) (by rw [sum_one]; have := hn.out; omega) (by decide) (by have := hn.out; show l.length ≤ _; omega)).mono ?_; rintro z w5 ⟨rfl, A2, cap2, h1⟩; rw [one_set] at h1; have HS3 := Lib.hid h1; have HP3 : Hid (ByAt w5 b lq) := Lib.hid (HBQ.out.keep (below_gb HB1.out h1.below (Nat.le_trans HB1.out.size HGN.out))); clear h1 HS2)
          | (go_at_call 23; refine (restart_M (some ⟨_, 0, none⟩) [keep] 1 1 (Lib.hid rfl) 1 (Lib.hid rfl) (by decide) (Lib.hid (sure_du (by have := hn.out; have := hm.out; omega))) _ (sn_alloc HS3 _) (Lib.hid (ints_new _ _)) (Lib.hid (sn_ng HS3)) (Lib.hid (sn_nf HS3))).mono ?_; rintro z w9 ⟨rfl, h1, -, -⟩; rw [HFA.out] at h1; have HS7 := Lib.hid h1; clear h1 HS3)
          | (go_at_call 25; refine (read_yes (by simp) _ (by show lr.length ≤ _; omega) HS7 (there_one (t := { data := #[97] }) rfl (by decide) form_a_K)).mono ?_; rintro z w10 ⟨B, c, rfl, own, hb⟩; have HO := Lib.hid own.byAt; have HS8 := Lib.hid (HS7.out.next hb); clear own hb HS7))
        have HW8 : Hid (Below W.heap.size W w10) := Lib.hid (below_gb HB1.out HS8.out.below (Nat.le_trans HB1.out.size HGN.out))
        have HS9 := Lib.hid (HS8.out.drew)
        have hh0 : Below w10.heap.size w10 w10.drew := (Below.refl _ _).drew
        refine wp_region_held_drew (S := fun w => Below w10.heap.size w10 w) (by kernel_rfl) hh0 (fun hHeld => ?_)
        have hsz : (strB l).size + (strB (lq.take m)).size ≤ 9223372036854775807 := by rw [strB_size, strB_size, List.length_take]; have := hn.out; have := hm.out; omega
        refine wpAnyH_take (i := 0) (v := .int .i64 0) rfl (by kernel_rfl) (by kernel_rfl) (by kernel_rfl) (fun _ _ _ h => h) (Or.inl ⟨by rfl, fun _ _ => rfl⟩) hHeld ?_
        try dsimp only
        try simp only [Act.put, List.getElem_toArray, List.getElem_cons_zero, List.getElem_cons_succ, List.setIfInBounds_toArray, List.set_cons_zero, List.set_cons_succ]
        refine wpAnyH_take (i := 1) (v := .bool true) rfl (by kernel_rfl) (by kernel_rfl) (by kernel_rfl) (fun _ _ _ h => h) (Or.inl ⟨by rfl, fun w _ => by go_simp⟩) hHeld ?_
        try dsimp only
        try simp only [Act.put, List.getElem_toArray, List.getElem_cons_zero, List.getElem_cons_succ, List.setIfInBounds_toArray, List.set_cons_zero, List.set_cons_succ]
        refine wpAnyH_take (i := 2) (v := .bool true) rfl (by kernel_rfl) (by kernel_rfl) (by kernel_rfl) (fun _ _ _ h => h) (Or.inl ⟨by rfl, fun _ _ => rfl⟩) hHeld ?_
        try dsimp only
        try simp only [Act.put, List.getElem_toArray, List.getElem_cons_zero, List.getElem_cons_succ, List.setIfInBounds_toArray, List.set_cons_zero, List.set_cons_succ]
        refine wpAnyH_take (i := 3) (v := .slice B lr.length c) rfl (by kernel_rfl) (by kernel_rfl) (by kernel_rfl) (fun _ _ _ h => h) (Or.inl ⟨by rfl, fun _ _ => rfl⟩) hHeld ?_
        try dsimp only
        try simp only [Act.put, List.getElem_toArray, List.getElem_cons_zero, List.getElem_cons_succ, List.setIfInBounds_toArray, List.set_cons_zero, List.set_cons_succ]
        refine wpAnyH_take (i := 4) (v := .string (strB l ++ strB (lq.take m))) rfl (by kernel_rfl) (by kernel_rfl) (by kernel_rfl) (fun _ _ _ h => h) (yieldsIf_conv rfl (.tmp 84) rfl (.slice B lr.length c) _ rfl (fun w' hw' => by rw [← HLR.out]; exact conv_by lr.length c (HO.out.keep hw') rfl)) hHeld ?_
        try dsimp only
        try simp only [Act.put, List.getElem_toArray, List.getElem_cons_zero, List.getElem_cons_succ, List.setIfInBounds_toArray, List.set_cons_zero, List.set_cons_succ]
        refine wpAnyH_take (i := 5) (v := .slice a n ca) rfl (by kernel_rfl) (by kernel_rfl) (by kernel_rfl) (fun _ _ _ h => h) (Or.inl ⟨by rfl, fun _ _ => rfl⟩) hHeld ?_
        try dsimp only
        try simp only [Act.put, List.getElem_toArray, List.getElem_cons_zero, List.getElem_cons_succ, List.setIfInBounds_toArray, List.set_cons_zero, List.set_cons_succ]
        refine wpAnyH_take (i := 6) (v := .string (strB l)) rfl (by kernel_rfl) (by kernel_rfl) (by kernel_rfl) (fun _ _ _ h => h) (yieldsIf_conv rfl (.tmp 86) rfl (.slice a n ca) _ rfl (fun w' hw' => conv_by n ca ((HA.out.keep HW8.out).keep hw') hn.out)) hHeld ?_
        try dsimp only
        try simp only [Act.put, List.getElem_toArray, List.getElem_cons_zero, List.getElem_cons_succ, List.setIfInBounds_toArray, List.set_cons_zero, List.set_cons_succ]
        refine wpAnyH_take (i := 7) (v := .slice b m cb) rfl (by kernel_rfl) (by kernel_rfl) (by kernel_rfl) (fun _ _ _ h => h) (Or.inl ⟨by rfl, fun _ _ => rfl⟩) hHeld ?_
        try dsimp only
        try simp only [Act.put, List.getElem_toArray, List.getElem_cons_zero, List.getElem_cons_succ, List.setIfInBounds_toArray, List.set_cons_zero, List.set_cons_succ]
        refine wpAnyH_take (i := 8) (v := .int .i64 (m : Nat)) rfl (by kernel_rfl) (by kernel_rfl) (by kernel_rfl) (fun _ _ _ h => h) (Or.inl ⟨by rfl, fun _ _ => rfl⟩) hHeld ?_
        try dsimp only
        try simp only [Act.put, List.getElem_toArray, List.getElem_cons_zero, List.getElem_cons_succ, List.setIfInBounds_toArray, List.set_cons_zero, List.set_cons_succ]
        refine wpAnyH_take (i := 9) (v := .slice AQ m cb) rfl (by kernel_rfl) (by kernel_rfl) (by kernel_rfl) (fun _ _ _ h => h) (Or.inl ⟨by rfl, fun w _ => by have := HQ.out w; go_simp⟩) hHeld ?_
        try dsimp only
        try simp only [Act.put, List.getElem_toArray, List.getElem_cons_zero, List.getElem_cons_succ, List.setIfInBounds_toArray, List.set_cons_zero, List.set_cons_succ]
        refine wpAnyH_take (i := 10) (v := .string (strB (lq.take m))) rfl (by kernel_rfl) (by kernel_rfl) (by kernel_rfl) (fun _ _ _ h => h) (yieldsIf_conv rfl (.tmp 90) rfl (.slice AQ m cb) _ rfl (fun w' hw' => conv_by m cb (HQB.out w' lq hm.out ((HBQ.out.keep HW8.out).keep hw')) (by rw [List.length_take]; have := hm.out; omega))) hHeld ?_
        try dsimp only
        try simp only [Act.put, List.getElem_toArray, List.getElem_cons_zero, List.getElem_cons_succ, List.setIfInBounds_toArray, List.set_cons_zero, List.set_cons_succ]
        refine wpAnyH_take (i := 11) (v := .string (strB l ++ strB (lq.take m))) rfl (by kernel_rfl) (by kernel_rfl) (by kernel_rfl) (fun _ _ _ h => h) (Or.inl ⟨by rfl, fun w _ => by go_simp⟩) hHeld ?_
        try dsimp only
        try simp only [Act.put, List.getElem_toArray, List.getElem_cons_zero, List.getElem_cons_succ, List.setIfInBounds_toArray, List.set_cons_zero, List.set_cons_succ]
        refine wpAnyH_take (i := 12) (v := .bool true) rfl (by kernel_rfl) (by kernel_rfl) (by kernel_rfl) (fun _ _ _ h => h) (Or.inl ⟨by rfl, fun w _ => by go_simp⟩) hHeld ?_
        try dsimp only
        try simp only [Act.put, List.getElem_toArray, List.getElem_cons_zero, List.getElem_cons_succ, List.setIfInBounds_toArray, List.set_cons_zero, List.set_cons_succ]
        refine wpAnyH_take (i := 13) (v := .bool true) rfl (by kernel_rfl) (by kernel_rfl) (by kernel_rfl) (fun _ _ _ h => h) (Or.inl ⟨by rfl, fun _ _ => rfl⟩) hHeld ?_
        try dsimp only
        try simp only [Act.put, List.getElem_toArray, List.getElem_cons_zero, List.getElem_cons_succ, List.setIfInBounds_toArray, List.set_cons_zero, List.set_cons_succ]
        refine wpAnyH_take (i := 14) (v := .bool true) rfl (by kernel_rfl) (by kernel_rfl) (by kernel_rfl) (fun _ _ _ h => h) (Or.inl ⟨by rfl, fun _ _ => rfl⟩) hHeld ?_
        try dsimp only
        try simp only [Act.put, List.getElem_toArray, List.getElem_cons_zero, List.getElem_cons_succ, List.setIfInBounds_toArray, List.set_cons_zero, List.set_cons_succ]
        refine wpAnyH_take (i := 15) (v := .pointer (some ⟨g, 0, none⟩)) rfl (by kernel_rfl) (by kernel_rfl) (by kernel_rfl) (fun _ _ _ h => h) (Or.inl ⟨by rfl, fun _ _ => rfl⟩) hHeld ?_
        try dsimp only
        try simp only [Act.put, List.getElem_toArray, List.getElem_cons_zero, List.getElem_cons_succ, List.setIfInBounds_toArray, List.set_cons_zero, List.set_cons_succ]
        refine wpAnyH_ready (rs := [16]) (by kernel_rfl) (by simp) (AllReadyH.cons rfl (fun K hK => ?_) AllReadyH.nil)
        go_simp
        refine (list_any 1 (Lib.hid rfl) (by decide) _ (Lib.hid (HS8.out.next hHeld))).mono ?_
        rintro z w11 ⟨q, rfl, -, -, -, -, hb⟩
        replace hHeld := below_to hHeld hb
        clear hb
        refine hK.out _ _ hHeld (fun hHeld => ?_)
        clear hK K
        try dsimp only
        try simp only [Act.put, List.getElem_toArray, List.getElem_cons_zero, List.getElem_cons_succ, List.setIfInBounds_toArray, List.set_cons_zero, List.set_cons_succ]
        refine wpAnyH_ready (rs := [17]) (by kernel_rfl) (by simp) (AllReadyH.cons rfl (fun K hK => ?_) AllReadyH.nil)
        go_simp
        refine hK.out _ _ hHeld (fun hHeld => ?_)
        clear hK K
        try dsimp only
        try simp only [Act.put, List.getElem_toArray, List.getElem_cons_zero, List.getElem_cons_succ, List.setIfInBounds_toArray, List.set_cons_zero, List.set_cons_succ]
        refine wpAnyH_ready (rs := [18]) (by kernel_rfl) (by simp) (AllReadyH.cons rfl (fun K hK => ?_) AllReadyH.nil)
        go_simp
        refine hK.out _ _ hHeld (fun hHeld => ?_)
        clear hK K
        try dsimp only
        try simp only [Act.put, List.getElem_toArray, List.getElem_cons_zero, List.getElem_cons_succ, List.setIfInBounds_toArray, List.set_cons_zero, List.set_cons_succ]
        refine wpAnyH_ready (rs := [19]) (by kernel_rfl) (by simp) (AllReadyH.cons rfl (fun K hK => ?_) AllReadyH.nil)
        go_simp
        refine hK.out _ _ hHeld (fun hHeld => ?_)
        clear hK K
        try dsimp only
        try simp only [Act.put, List.getElem_toArray, List.getElem_cons_zero, List.getElem_cons_succ, List.setIfInBounds_toArray, List.set_cons_zero, List.set_cons_succ]
        refine wpAnyH_ready (rs := [20]) (by kernel_rfl) (by simp) (AllReadyH.cons rfl (fun K hK => ?_) AllReadyH.nil)
        go_simp
        refine hK.out _ _ hHeld (fun hHeld => ?_)
        clear hK K
        try dsimp only
        try simp only [Act.put, List.getElem_toArray, List.getElem_cons_zero, List.getElem_cons_succ, List.setIfInBounds_toArray, List.set_cons_zero, List.set_cons_succ]
        refine wpAnyH_done (by kernel_rfl) ?_ _
        go_wp2
        go_ret
        exact ⟨rfl, below_to HW8.out hHeld⟩
      · skip
        obtain ⟨hk1, hk2⟩ := hk
        have HFA := Lib.hid (fun A cap => sure_fall { data := #[97] } A cap l lq keep m (by have := hm.out; omega))
        obtain ⟨lr, hlr⟩ : ∃ lr, lr = l ++ lq.take m := ⟨_, rfl⟩
        rw [← hlr] at HFA
        have HLR : Hid (strB lr = strB l ++ strB (lq.take m)) := Lib.hid (by rw [hlr, strB_append])
        have HLL : Hid (lr.length = n + m) := Lib.hid (by rw [hlr, List.length_append, List.length_take]; have := hn.out; have := hm.out; omega)
        have hlr8 : lr.length ≤ 3000 := by have := HLL.out; omega
        obtain ⟨AQ, HQ, HQB⟩ := cut_to b m cb m (by omega) hcb
        have HQ := Lib.hid HQ
        have HQB := Lib.hid HQB
        clear hlr
        go_enter Try.func4, Try.ntmps4
        go_upto_region 16 with (first
          | (go_at_call 10; refine (awake_any _).mono ?_; rintro e w1 ⟨rfl, hb⟩; have HB1 := Lib.hid hb; clear hb)
          | (go_at_call 11; refine (new_any 5000 (by decide) _).mono ?_; rintro e w2 ⟨g, rfl, hgn, h0⟩; have HS0 := Lib.hid h0; have HGN := Lib.hid hgn; have HP0 : Hid (ByAt w2 a l) := Lib.hid (HA.out.keep (below_gb HB1.out h0.below (Nat.le_trans HB1.out.size hgn))); clear h0 hgn)
          | (go_at_call 13; refine (append_first (e := 0) (t := { data := #[97] }) (by decide) form_a_K _ HS0 op_none (Lib.hid (by decide)) (Lib.hid (by decide)) a n ca l hn HP0 (by decide) (by omega)).mono ?_; rintro z w3 ⟨rfl, f1, fc1, r1, A1, cap1, h1⟩; have HS1 := Lib.hid h1; clear h1 HS0)
          | (go_at_call 15; refine (sync_yes (by simp) _ HS1 (there_one (t := { data := #[97] }) rfl (by decide) form_a_K) op_none (Lib.hid (by decide)) (Lib.hid (by decide))).mono ?_; rintro z w4 ⟨rfl, h1⟩; rw [one_set] at h1; have HS2 := Lib.hid h1; have HP2 : Hid (ByAt w4 b lq) := Lib.hid (HBQ.out.keep (below_gb HB1.out h1.below (Nat.le_trans HB1.out.size HGN.out))); clear h1 HS1)
          | (go_at_call 13; refine (append_yes (e := 0) (by simp) (by rw [sum_one]; have := hn.out; omega) _ HS2 (there_one (t := { data := #[97] }) rfl (by decide) form_a_K) op_none (Lib.hid (by decide)) (Lib.hid (by decide)) b m cb lq hm HP2 (by decide) (by rw [sum_one]; have := hn.out; omega) (by decide) (by have := hn.out; show l.length ≤ _; omega)).mono ?_; rintro z w5 ⟨rfl, A2, cap2, h1⟩; rw [one_set] at h1; have HS3 := Lib.hid h1; have HP3 : Hid (ByAt w5 b lq) := Lib.hid (HBQ.out.keep (below_gb HB1.out h1.below (Nat.le_trans HB1.out.size HGN.out))); clear h1 HS2)
          | (go_at_call 23; refine (restart_M (some ⟨_, 0, none⟩) [keep] 1 1 (Lib.hid rfl) 1 (Lib.hid rfl) (by decide) (Lib.hid (sure_du (by have := hn.out; have := hm.out; omega))) _ (sn_alloc HS3 _) (Lib.hid (ints_new _ _)) (Lib.hid (sn_ng HS3)) (Lib.hid (sn_nf HS3))).mono ?_; rintro z w9 ⟨rfl, h1, -, -⟩; rw [HFA.out] at h1; have HS7 := Lib.hid h1; clear h1 HS3)
          | (go_at_call 25; refine (read_yes (by simp) _ (by show lr.length ≤ _; omega) HS7 (there_one (t := { data := #[97] }) rfl (by decide) form_a_K)).mono ?_; rintro z w10 ⟨B, c, rfl, own, hb⟩; have HO := Lib.hid own.byAt; have HS8 := Lib.hid (HS7.out.next hb); clear own hb HS7))
        have HW8 : Hid (Below W.heap.size W w10) := Lib.hid (below_gb HB1.out HS8.out.below (Nat.le_trans HB1.out.size HGN.out))
        have HS9 := Lib.hid (HS8.out.drew)
        have hh0 : Below w10.heap.size w10 w10.drew := (Below.refl _ _).drew
        refine wp_region_held_drew (S := fun w => Below w10.heap.size w10 w) (by kernel_rfl) hh0 (fun hHeld => ?_)
        have hsz : (strB l).size + (strB (lq.take m)).size ≤ 9223372036854775807 := by rw [strB_size, strB_size, List.length_take]; have := hn.out; have := hm.out; omega
        refine wpAnyH_take (i := 0) (v := .int .i64 0) rfl (by kernel_rfl) (by kernel_rfl) (by kernel_rfl) (fun _ _ _ h => h) (Or.inl ⟨by rfl, fun _ _ => rfl⟩) hHeld ?_
        try dsimp only
        try simp only [Act.put, List.getElem_toArray, List.getElem_cons_zero, List.getElem_cons_succ, List.setIfInBounds_toArray, List.set_cons_zero, List.set_cons_succ]
        refine wpAnyH_take (i := 1) (v := .bool true) rfl (by kernel_rfl) (by kernel_rfl) (by kernel_rfl) (fun _ _ _ h => h) (Or.inl ⟨by rfl, fun w _ => by go_simp⟩) hHeld ?_
        try dsimp only
        try simp only [Act.put, List.getElem_toArray, List.getElem_cons_zero, List.getElem_cons_succ, List.setIfInBounds_toArray, List.set_cons_zero, List.set_cons_succ]
        refine wpAnyH_take (i := 2) (v := .bool true) rfl (by kernel_rfl) (by kernel_rfl) (by kernel_rfl) (fun _ _ _ h => h) (Or.inl ⟨by rfl, fun _ _ => rfl⟩) hHeld ?_
        try dsimp only
        try simp only [Act.put, List.getElem_toArray, List.getElem_cons_zero, List.getElem_cons_succ, List.setIfInBounds_toArray, List.set_cons_zero, List.set_cons_succ]
        refine wpAnyH_take (i := 3) (v := .slice B lr.length c) rfl (by kernel_rfl) (by kernel_rfl) (by kernel_rfl) (fun _ _ _ h => h) (Or.inl ⟨by rfl, fun _ _ => rfl⟩) hHeld ?_
        try dsimp only
        try simp only [Act.put, List.getElem_toArray, List.getElem_cons_zero, List.getElem_cons_succ, List.setIfInBounds_toArray, List.set_cons_zero, List.set_cons_succ]
        refine wpAnyH_take (i := 4) (v := .string (strB l ++ strB (lq.take m))) rfl (by kernel_rfl) (by kernel_rfl) (by kernel_rfl) (fun _ _ _ h => h) (yieldsIf_conv rfl (.tmp 84) rfl (.slice B lr.length c) _ rfl (fun w' hw' => by rw [← HLR.out]; exact conv_by lr.length c (HO.out.keep hw') rfl)) hHeld ?_
        try dsimp only
        try simp only [Act.put, List.getElem_toArray, List.getElem_cons_zero, List.getElem_cons_succ, List.setIfInBounds_toArray, List.set_cons_zero, List.set_cons_succ]
        refine wpAnyH_take (i := 5) (v := .slice a n ca) rfl (by kernel_rfl) (by kernel_rfl) (by kernel_rfl) (fun _ _ _ h => h) (Or.inl ⟨by rfl, fun _ _ => rfl⟩) hHeld ?_
        try dsimp only
        try simp only [Act.put, List.getElem_toArray, List.getElem_cons_zero, List.getElem_cons_succ, List.setIfInBounds_toArray, List.set_cons_zero, List.set_cons_succ]
        refine wpAnyH_take (i := 6) (v := .string (strB l)) rfl (by kernel_rfl) (by kernel_rfl) (by kernel_rfl) (fun _ _ _ h => h) (yieldsIf_conv rfl (.tmp 86) rfl (.slice a n ca) _ rfl (fun w' hw' => conv_by n ca ((HA.out.keep HW8.out).keep hw') hn.out)) hHeld ?_
        try dsimp only
        try simp only [Act.put, List.getElem_toArray, List.getElem_cons_zero, List.getElem_cons_succ, List.setIfInBounds_toArray, List.set_cons_zero, List.set_cons_succ]
        refine wpAnyH_take (i := 7) (v := .slice b m cb) rfl (by kernel_rfl) (by kernel_rfl) (by kernel_rfl) (fun _ _ _ h => h) (Or.inl ⟨by rfl, fun _ _ => rfl⟩) hHeld ?_
        try dsimp only
        try simp only [Act.put, List.getElem_toArray, List.getElem_cons_zero, List.getElem_cons_succ, List.setIfInBounds_toArray, List.set_cons_zero, List.set_cons_succ]
        refine wpAnyH_take (i := 8) (v := .int .i64 (m : Nat)) rfl (by kernel_rfl) (by kernel_rfl) (by kernel_rfl) (fun _ _ _ h => h) (Or.inl ⟨by rfl, fun _ _ => rfl⟩) hHeld ?_
        try dsimp only
        try simp only [Act.put, List.getElem_toArray, List.getElem_cons_zero, List.getElem_cons_succ, List.setIfInBounds_toArray, List.set_cons_zero, List.set_cons_succ]
        refine wpAnyH_take (i := 9) (v := .slice AQ m cb) rfl (by kernel_rfl) (by kernel_rfl) (by kernel_rfl) (fun _ _ _ h => h) (Or.inl ⟨by rfl, fun w _ => by have := HQ.out w; go_simp⟩) hHeld ?_
        try dsimp only
        try simp only [Act.put, List.getElem_toArray, List.getElem_cons_zero, List.getElem_cons_succ, List.setIfInBounds_toArray, List.set_cons_zero, List.set_cons_succ]
        refine wpAnyH_take (i := 10) (v := .string (strB (lq.take m))) rfl (by kernel_rfl) (by kernel_rfl) (by kernel_rfl) (fun _ _ _ h => h) (yieldsIf_conv rfl (.tmp 90) rfl (.slice AQ m cb) _ rfl (fun w' hw' => conv_by m cb (HQB.out w' lq hm.out ((HBQ.out.keep HW8.out).keep hw')) (by rw [List.length_take]; have := hm.out; omega))) hHeld ?_
        try dsimp only
        try simp only [Act.put, List.getElem_toArray, List.getElem_cons_zero, List.getElem_cons_succ, List.setIfInBounds_toArray, List.set_cons_zero, List.set_cons_succ]
        refine wpAnyH_take (i := 11) (v := .string (strB l ++ strB (lq.take m))) rfl (by kernel_rfl) (by kernel_rfl) (by kernel_rfl) (fun _ _ _ h => h) (Or.inl ⟨by rfl, fun w _ => by go_simp⟩) hHeld ?_
        try dsimp only
        try simp only [Act.put, List.getElem_toArray, List.getElem_cons_zero, List.getElem_cons_succ, List.setIfInBounds_toArray, List.set_cons_zero, List.set_cons_succ]
        refine wpAnyH_take (i := 12) (v := .bool true) rfl (by kernel_rfl) (by kernel_rfl) (by kernel_rfl) (fun _ _ _ h => h) (Or.inl ⟨by rfl, fun w _ => by go_simp⟩) hHeld ?_
        try dsimp only
        try simp only [Act.put, List.getElem_toArray, List.getElem_cons_zero, List.getElem_cons_succ, List.setIfInBounds_toArray, List.set_cons_zero, List.set_cons_succ]
        refine wpAnyH_take (i := 13) (v := .bool true) rfl (by kernel_rfl) (by kernel_rfl) (by kernel_rfl) (fun _ _ _ h => h) (Or.inl ⟨by rfl, fun _ _ => rfl⟩) hHeld ?_
        try dsimp only
        try simp only [Act.put, List.getElem_toArray, List.getElem_cons_zero, List.getElem_cons_succ, List.setIfInBounds_toArray, List.set_cons_zero, List.set_cons_succ]
        refine wpAnyH_take (i := 14) (v := .bool true) rfl (by kernel_rfl) (by kernel_rfl) (by kernel_rfl) (fun _ _ _ h => h) (Or.inl ⟨by rfl, fun _ _ => rfl⟩) hHeld ?_
        try dsimp only
        try simp only [Act.put, List.getElem_toArray, List.getElem_cons_zero, List.getElem_cons_succ, List.setIfInBounds_toArray, List.set_cons_zero, List.set_cons_succ]
        refine wpAnyH_take (i := 15) (v := .pointer (some ⟨g, 0, none⟩)) rfl (by kernel_rfl) (by kernel_rfl) (by kernel_rfl) (fun _ _ _ h => h) (Or.inl ⟨by rfl, fun _ _ => rfl⟩) hHeld ?_
        try dsimp only
        try simp only [Act.put, List.getElem_toArray, List.getElem_cons_zero, List.getElem_cons_succ, List.setIfInBounds_toArray, List.set_cons_zero, List.set_cons_succ]
        refine wpAnyH_ready (rs := [16]) (by kernel_rfl) (by simp) (AllReadyH.cons rfl (fun K hK => ?_) AllReadyH.nil)
        go_simp
        refine (list_any 1 (Lib.hid rfl) (by decide) _ (Lib.hid (HS8.out.next hHeld))).mono ?_
        rintro z w11 ⟨q, rfl, -, -, -, -, hb⟩
        replace hHeld := below_to hHeld hb
        clear hb
        refine hK.out _ _ hHeld (fun hHeld => ?_)
        clear hK K
        try dsimp only
        try simp only [Act.put, List.getElem_toArray, List.getElem_cons_zero, List.getElem_cons_succ, List.setIfInBounds_toArray, List.set_cons_zero, List.set_cons_succ]
        refine wpAnyH_ready (rs := [17]) (by kernel_rfl) (by simp) (AllReadyH.cons rfl (fun K hK => ?_) AllReadyH.nil)
        go_simp
        refine hK.out _ _ hHeld (fun hHeld => ?_)
        clear hK K
        try dsimp only
        try simp only [Act.put, List.getElem_toArray, List.getElem_cons_zero, List.getElem_cons_succ, List.setIfInBounds_toArray, List.set_cons_zero, List.set_cons_succ]
        refine wpAnyH_ready (rs := [18]) (by kernel_rfl) (by simp) (AllReadyH.cons rfl (fun K hK => ?_) AllReadyH.nil)
        go_simp
        refine hK.out _ _ hHeld (fun hHeld => ?_)
        clear hK K
        try dsimp only
        try simp only [Act.put, List.getElem_toArray, List.getElem_cons_zero, List.getElem_cons_succ, List.setIfInBounds_toArray, List.set_cons_zero, List.set_cons_succ]
        refine wpAnyH_ready (rs := [19]) (by kernel_rfl) (by simp) (AllReadyH.cons rfl (fun K hK => ?_) AllReadyH.nil)
        go_simp
        refine hK.out _ _ hHeld (fun hHeld => ?_)
        clear hK K
        try dsimp only
        try simp only [Act.put, List.getElem_toArray, List.getElem_cons_zero, List.getElem_cons_succ, List.setIfInBounds_toArray, List.set_cons_zero, List.set_cons_succ]
        refine wpAnyH_ready (rs := [20]) (by kernel_rfl) (by simp) (AllReadyH.cons rfl (fun K hK => ?_) AllReadyH.nil)
        go_simp
        refine hK.out _ _ hHeld (fun hHeld => ?_)
        clear hK K
        try dsimp only
        try simp only [Act.put, List.getElem_toArray, List.getElem_cons_zero, List.getElem_cons_succ, List.setIfInBounds_toArray, List.set_cons_zero, List.set_cons_succ]
        refine wpAnyH_done (by kernel_rfl) ?_ _
        go_wp2
        go_ret
        exact ⟨rfl, below_to HW8.out hHeld⟩
      · skip
        obtain ⟨hk1, hk2⟩ := hk
        obtain ⟨K, rfl⟩ : ∃ K : Nat, keep = (K : Int) := ⟨keep.toNat, by omega⟩
        have HFA := Lib.hid (fun A cap => sure_fall { data := #[97] } A cap l lq (K : Int) K (by have := hm.out; omega))
        obtain ⟨lr, hlr⟩ : ∃ lr, lr = l ++ lq.take K := ⟨_, rfl⟩
        rw [← hlr] at HFA
        have HLR : Hid (strB lr = strB l ++ strB (lq.take K)) := Lib.hid (by rw [hlr, strB_append])
        have HLL : Hid (lr.length = n + K) := Lib.hid (by rw [hlr, List.length_append, List.length_take]; have := hn.out; have := hm.out; omega)
        have hlr8 : lr.length ≤ 3000 := by have := HLL.out; omega
        obtain ⟨AQ, HQ, HQB⟩ := cut_to b m cb K (by omega) hcb
        have HQ := Lib.hid HQ
        have HQB := Lib.hid HQB
        clear hlr
        go_enter Try.func4, Try.ntmps4
        go_upto_region 16 with (first
          | (go_at_call 10; refine (awake_any _).mono ?_; rintro e w1 ⟨rfl, hb⟩; have HB1 := Lib.hid hb; clear hb)
          | (go_at_call 11; refine (new_any 5000 (by decide) _).mono ?_; rintro e w2 ⟨g, rfl, hgn, h0⟩; have HS0 := Lib.hid h0; have HGN := Lib.hid hgn; have HP0 : Hid (ByAt w2 a l) := Lib.hid (HA.out.keep (below_gb HB1.out h0.below (Nat.le_trans HB1.out.size hgn))); clear h0 hgn)
          | (go_at_call 13; refine (append_first (e := 0) (t := { data := #[97] }) (by decide) form_a_K _ HS0 op_none (Lib.hid (by decide)) (Lib.hid (by decide)) a n ca l hn HP0 (by decide) (by omega)).mono ?_; rintro z w3 ⟨rfl, f1, fc1, r1, A1, cap1, h1⟩; have HS1 := Lib.hid h1; clear h1 HS0)
          | (go_at_call 15; refine (sync_yes (by simp) _ HS1 (there_one (t := { data := #[97] }) rfl (by decide) form_a_K) op_none (Lib.hid (by decide)) (Lib.hid (by decide))).mono ?_; rintro z w4 ⟨rfl, h1⟩; rw [one_set] at h1; have HS2 := Lib.hid h1; have HP2 : Hid (ByAt w4 b lq) := Lib.hid (HBQ.out.keep (below_gb HB1.out h1.below (Nat.le_trans HB1.out.size HGN.out))); clear h1 HS1)
          | (go_at_call 13; refine (append_yes (e := 0) (by simp) (by rw [sum_one]; have := hn.out; omega) _ HS2 (there_one (t := { data := #[97] }) rfl (by decide) form_a_K) op_none (Lib.hid (by decide)) (Lib.hid (by decide)) b m cb lq hm HP2 (by decide) (by rw [sum_one]; have := hn.out; omega) (by decide) (by have := hn.out; show l.length ≤ _; omega)).mono ?_; rintro z w5 ⟨rfl, A2, cap2, h1⟩; rw [one_set] at h1; have HS3 := Lib.hid h1; have HP3 : Hid (ByAt w5 b lq) := Lib.hid (HBQ.out.keep (below_gb HB1.out h1.below (Nat.le_trans HB1.out.size HGN.out))); clear h1 HS2)
          | (go_at_call 23; refine (restart_M (some ⟨_, 0, none⟩) [(K : Int)] 1 1 (Lib.hid rfl) 1 (Lib.hid rfl) (by decide) (Lib.hid (sure_du (by have := hn.out; have := hm.out; omega))) _ (sn_alloc HS3 _) (Lib.hid (ints_new _ _)) (Lib.hid (sn_ng HS3)) (Lib.hid (sn_nf HS3))).mono ?_; rintro z w9 ⟨rfl, h1, -, -⟩; rw [HFA.out] at h1; have HS7 := Lib.hid h1; clear h1 HS3)
          | (go_at_call 25; refine (read_yes (by simp) _ (by show lr.length ≤ _; omega) HS7 (there_one (t := { data := #[97] }) rfl (by decide) form_a_K)).mono ?_; rintro z w10 ⟨B, c, rfl, own, hb⟩; have HO := Lib.hid own.byAt; have HS8 := Lib.hid (HS7.out.next hb); clear own hb HS7))
        have HW8 : Hid (Below W.heap.size W w10) := Lib.hid (below_gb HB1.out HS8.out.below (Nat.le_trans HB1.out.size HGN.out))
        have HS9 := Lib.hid (HS8.out.drew)
        have hh0 : Below w10.heap.size w10 w10.drew := (Below.refl _ _).drew
        refine wp_region_held_drew (S := fun w => Below w10.heap.size w10 w) (by kernel_rfl) hh0 (fun hHeld => ?_)
        have hsz : (strB l).size + (strB (lq.take K)).size ≤ 9223372036854775807 := by rw [strB_size, strB_size, List.length_take]; have := hn.out; have := hm.out; omega
        refine wpAnyH_take (i := 0) (v := .int .i64 0) rfl (by kernel_rfl) (by kernel_rfl) (by kernel_rfl) (fun _ _ _ h => h) (Or.inl ⟨by rfl, fun _ _ => rfl⟩) hHeld ?_
        try dsimp only
        try simp only [Act.put, List.getElem_toArray, List.getElem_cons_zero, List.getElem_cons_succ, List.setIfInBounds_toArray, List.set_cons_zero, List.set_cons_succ]
        refine wpAnyH_take (i := 1) (v := .bool true) rfl (by kernel_rfl) (by kernel_rfl) (by kernel_rfl) (fun _ _ _ h => h) (Or.inl ⟨by rfl, fun w _ => by go_simp⟩) hHeld ?_
        try dsimp only
        try simp only [Act.put, List.getElem_toArray, List.getElem_cons_zero, List.getElem_cons_succ, List.setIfInBounds_toArray, List.set_cons_zero, List.set_cons_succ]
        refine wpAnyH_take (i := 2) (v := .bool true) rfl (by kernel_rfl) (by kernel_rfl) (by kernel_rfl) (fun _ _ _ h => h) (Or.inl ⟨by rfl, fun _ _ => rfl⟩) hHeld ?_
        try dsimp only
        try simp only [Act.put, List.getElem_toArray, List.getElem_cons_zero, List.getElem_cons_succ, List.setIfInBounds_toArray, List.set_cons_zero, List.set_cons_succ]
        refine wpAnyH_take (i := 3) (v := .slice B lr.length c) rfl (by kernel_rfl) (by kernel_rfl) (by kernel_rfl) (fun _ _ _ h => h) (Or.inl ⟨by rfl, fun _ _ => rfl⟩) hHeld ?_
        try dsimp only
        try simp only [Act.put, List.getElem_toArray, List.getElem_cons_zero, List.getElem_cons_succ, List.setIfInBounds_toArray, List.set_cons_zero, List.set_cons_succ]
        refine wpAnyH_take (i := 4) (v := .string (strB l ++ strB (lq.take K))) rfl (by kernel_rfl) (by kernel_rfl) (by kernel_rfl) (fun _ _ _ h => h) (yieldsIf_conv rfl (.tmp 84) rfl (.slice B lr.length c) _ rfl (fun w' hw' => by rw [← HLR.out]; exact conv_by lr.length c (HO.out.keep hw') rfl)) hHeld ?_
        try dsimp only
        try simp only [Act.put, List.getElem_toArray, List.getElem_cons_zero, List.getElem_cons_succ, List.setIfInBounds_toArray, List.set_cons_zero, List.set_cons_succ]
        refine wpAnyH_take (i := 5) (v := .slice a n ca) rfl (by kernel_rfl) (by kernel_rfl) (by kernel_rfl) (fun _ _ _ h => h) (Or.inl ⟨by rfl, fun _ _ => rfl⟩) hHeld ?_
        try dsimp only
        try simp only [Act.put, List.getElem_toArray, List.getElem_cons_zero, List.getElem_cons_succ, List.setIfInBounds_toArray, List.set_cons_zero, List.set_cons_succ]
        refine wpAnyH_take (i := 6) (v := .string (strB l)) rfl (by kernel_rfl) (by kernel_rfl) (by kernel_rfl) (fun _ _ _ h => h) (yieldsIf_conv rfl (.tmp 86) rfl (.slice a n ca) _ rfl (fun w' hw' => conv_by n ca ((HA.out.keep HW8.out).keep hw') hn.out)) hHeld ?_
        try dsimp only
        try simp only [Act.put, List.getElem_toArray, List.getElem_cons_zero, List.getElem_cons_succ, List.setIfInBounds_toArray, List.set_cons_zero, List.set_cons_succ]
        refine wpAnyH_take (i := 7) (v := .slice b m cb) rfl (by kernel_rfl) (by kernel_rfl) (by kernel_rfl) (fun _ _ _ h => h) (Or.inl ⟨by rfl, fun _ _ => rfl⟩) hHeld ?_
        try dsimp only
        try simp only [Act.put, List.getElem_toArray, List.getElem_cons_zero, List.getElem_cons_succ, List.setIfInBounds_toArray, List.set_cons_zero, List.set_cons_succ]
        refine wpAnyH_take (i := 8) (v := .int .i64 (K : Nat)) rfl (by kernel_rfl) (by kernel_rfl) (by kernel_rfl) (fun _ _ _ h => h) (Or.inl ⟨by rfl, fun _ _ => rfl⟩) hHeld ?_
        try dsimp only
        try simp only [Act.put, List.getElem_toArray, List.getElem_cons_zero, List.getElem_cons_succ, List.setIfInBounds_toArray, List.set_cons_zero, List.set_cons_succ]
        refine wpAnyH_take (i := 9) (v := .slice AQ K cb) rfl (by kernel_rfl) (by kernel_rfl) (by kernel_rfl) (fun _ _ _ h => h) (Or.inl ⟨by rfl, fun w _ => by have := HQ.out w; go_simp⟩) hHeld ?_
        try dsimp only
        try simp only [Act.put, List.getElem_toArray, List.getElem_cons_zero, List.getElem_cons_succ, List.setIfInBounds_toArray, List.set_cons_zero, List.set_cons_succ]
        refine wpAnyH_take (i := 10) (v := .string (strB (lq.take K))) rfl (by kernel_rfl) (by kernel_rfl) (by kernel_rfl) (fun _ _ _ h => h) (yieldsIf_conv rfl (.tmp 90) rfl (.slice AQ K cb) _ rfl (fun w' hw' => conv_by K cb (HQB.out w' lq hm.out ((HBQ.out.keep HW8.out).keep hw')) (by rw [List.length_take]; have := hm.out; omega))) hHeld ?_
        try dsimp only
        try simp only [Act.put, List.getElem_toArray, List.getElem_cons_zero, List.getElem_cons_succ, List.setIfInBounds_toArray, List.set_cons_zero, List.set_cons_succ]
        refine wpAnyH_take (i := 11) (v := .string (strB l ++ strB (lq.take K))) rfl (by kernel_rfl) (by kernel_rfl) (by kernel_rfl) (fun _ _ _ h => h) (Or.inl ⟨by rfl, fun w _ => by go_simp⟩) hHeld ?_
        try dsimp only
        try simp only [Act.put, List.getElem_toArray, List.getElem_cons_zero, List.getElem_cons_succ, List.setIfInBounds_toArray, List.set_cons_zero, List.set_cons_succ]
        refine wpAnyH_take (i := 12) (v := .bool true) rfl (by kernel_rfl) (by kernel_rfl) (by kernel_rfl) (fun _ _ _ h => h) (Or.inl ⟨by rfl, fun w _ => by go_simp⟩) hHeld ?_
        try dsimp only
        try simp only [Act.put, List.getElem_toArray, List.getElem_cons_zero, List.getElem_cons_succ, List.setIfInBounds_toArray, List.set_cons_zero, List.set_cons_succ]
        refine wpAnyH_take (i := 13) (v := .bool true) rfl (by kernel_rfl) (by kernel_rfl) (by kernel_rfl) (fun _ _ _ h => h) (Or.inl ⟨by rfl, fun _ _ => rfl⟩) hHeld ?_
        try dsimp only
        try simp only [Act.put, List.getElem_toArray, List.getElem_cons_zero, List.getElem_cons_succ, List.setIfInBounds_toArray, List.set_cons_zero, List.set_cons_succ]
        refine wpAnyH_take (i := 14) (v := .bool true) rfl (by kernel_rfl) (by kernel_rfl) (by kernel_rfl) (fun _ _ _ h => h) (Or.inl ⟨by rfl, fun _ _ => rfl⟩) hHeld ?_
        try dsimp only
        try simp only [Act.put, List.getElem_toArray, List.getElem_cons_zero, List.getElem_cons_succ, List.setIfInBounds_toArray, List.set_cons_zero, List.set_cons_succ]
        refine wpAnyH_take (i := 15) (v := .pointer (some ⟨g, 0, none⟩)) rfl (by kernel_rfl) (by kernel_rfl) (by kernel_rfl) (fun _ _ _ h => h) (Or.inl ⟨by rfl, fun _ _ => rfl⟩) hHeld ?_
        try dsimp only
        try simp only [Act.put, List.getElem_toArray, List.getElem_cons_zero, List.getElem_cons_succ, List.setIfInBounds_toArray, List.set_cons_zero, List.set_cons_succ]
        refine wpAnyH_ready (rs := [16]) (by kernel_rfl) (by simp) (AllReadyH.cons rfl (fun K hK => ?_) AllReadyH.nil)
        go_simp
        refine (list_any 1 (Lib.hid rfl) (by decide) _ (Lib.hid (HS8.out.next hHeld))).mono ?_
        rintro z w11 ⟨q, rfl, -, -, -, -, hb⟩
        replace hHeld := below_to hHeld hb
        clear hb
        refine hK.out _ _ hHeld (fun hHeld => ?_)
        clear hK K
        try dsimp only
        try simp only [Act.put, List.getElem_toArray, List.getElem_cons_zero, List.getElem_cons_succ, List.setIfInBounds_toArray, List.set_cons_zero, List.set_cons_succ]
        refine wpAnyH_ready (rs := [17]) (by kernel_rfl) (by simp) (AllReadyH.cons rfl (fun K hK => ?_) AllReadyH.nil)
        go_simp
        refine hK.out _ _ hHeld (fun hHeld => ?_)
        clear hK K
        try dsimp only
        try simp only [Act.put, List.getElem_toArray, List.getElem_cons_zero, List.getElem_cons_succ, List.setIfInBounds_toArray, List.set_cons_zero, List.set_cons_succ]
        refine wpAnyH_ready (rs := [18]) (by kernel_rfl) (by simp) (AllReadyH.cons rfl (fun K hK => ?_) AllReadyH.nil)
        go_simp
        refine hK.out _ _ hHeld (fun hHeld => ?_)
        clear hK K
        try dsimp only
        try simp only [Act.put, List.getElem_toArray, List.getElem_cons_zero, List.getElem_cons_succ, List.setIfInBounds_toArray, List.set_cons_zero, List.set_cons_succ]
        refine wpAnyH_ready (rs := [19]) (by kernel_rfl) (by simp) (AllReadyH.cons rfl (fun K hK => ?_) AllReadyH.nil)
        go_simp
        refine hK.out _ _ hHeld (fun hHeld => ?_)
        clear hK K
        try dsimp only
        try simp only [Act.put, List.getElem_toArray, List.getElem_cons_zero, List.getElem_cons_succ, List.setIfInBounds_toArray, List.set_cons_zero, List.set_cons_succ]
        refine wpAnyH_ready (rs := [20]) (by kernel_rfl) (by simp) (AllReadyH.cons rfl (fun K hK => ?_) AllReadyH.nil)
        go_simp
        refine hK.out _ _ hHeld (fun hHeld => ?_)
        clear hK K
        try dsimp only
        try simp only [Act.put, List.getElem_toArray, List.getElem_cons_zero, List.getElem_cons_succ, List.setIfInBounds_toArray, List.set_cons_zero, List.set_cons_succ]
        refine wpAnyH_done (by kernel_rfl) ?_ _
        go_wp2
        go_ret
        exact ⟨rfl, below_to HW8.out hHeld⟩
    · rcases hk with hk | hk | hk
      · skip
        have hkc : keep < 0 := hk
        have HFA := Lib.hid (fun A cap => sure_fall { data := #[98] } A cap l lq keep m (by have := hm.out; omega))
        obtain ⟨lr, hlr⟩ : ∃ lr, lr = l ++ lq.take m := ⟨_, rfl⟩
        rw [← hlr] at HFA
        have HLR : Hid (strB lr = strB l ++ strB (lq.take m)) := Lib.hid (by rw [hlr, strB_append])
        have HLL : Hid (lr.length = n + m) := Lib.hid (by rw [hlr, List.length_append, List.length_take]; have := hn.out; have := hm.out; omega)
        have hlr8 : lr.length ≤ 3000 := by have := HLL.out; omega
        obtain ⟨AQ, HQ, HQB⟩ := cut_to b m cb m (by omega) hcb
        have HQ := Lib.hid HQ
        have HQB := Lib.hid HQB
        clear hlr
        go_enter Try.func4, Try.ntmps4
        go_upto_region 16 with (first
          | (go_at_call 10; refine (awake_any _).mono ?_; rintro e w1 ⟨rfl, hb⟩; have HB1 := Lib.hid hb; clear hb)
          | (go_at_call 11; refine (new_any 5000 (by decide) _).mono ?_; rintro e w2 ⟨g, rfl, hgn, h0⟩; have HS0 := Lib.hid h0; have HGN := Lib.hid hgn; have HP0 : Hid (ByAt w2 a l) := Lib.hid (HA.out.keep (below_gb HB1.out h0.below (Nat.le_trans HB1.out.size hgn))); clear h0 hgn)
          | (go_at_call 13; refine (append_first (e := 0) (t := { data := #[97] }) (by decide) form_a_K _ HS0 op_none (Lib.hid (by decide)) (Lib.hid (by decide)) a n ca l hn HP0 (by decide) (by omega)).mono ?_; rintro z w3 ⟨rfl, f1, fc1, r1, A1, cap1, h1⟩; have HS1 := Lib.hid h1; clear h1 HS0)
          | (go_at_call 15; refine (sync_yes (by simp) _ HS1 (there_one (t := { data := #[97] }) rfl (by decide) form_a_K) op_none (Lib.hid (by decide)) (Lib.hid (by decide))).mono ?_; rintro z w4 ⟨rfl, h1⟩; rw [one_set] at h1; have HS2 := Lib.hid h1; have HP2 : Hid (ByAt w4 b lq) := Lib.hid (HBQ.out.keep (below_gb HB1.out h1.below (Nat.le_trans HB1.out.size HGN.out))); clear h1 HS1)
          | (go_at_call 13; refine (append_yes (e := 0) (by simp) (by rw [sum_one]; have := hn.out; omega) _ HS2 (there_one (t := { data := #[97] }) rfl (by decide) form_a_K) op_none (Lib.hid (by decide)) (Lib.hid (by decide)) b m cb lq hm HP2 (by decide) (by rw [sum_one]; have := hn.out; omega) (by decide) (by have := hn.out; show l.length ≤ _; omega)).mono ?_; rintro z w5 ⟨rfl, A2, cap2, h1⟩; rw [one_set] at h1; have HS3 := Lib.hid h1; have HP3 : Hid (ByAt w5 b lq) := Lib.hid (HBQ.out.keep (below_gb HB1.out h1.below (Nat.le_trans HB1.out.size HGN.out))); clear h1 HS2)
          | (go_at_call 13; refine (append_ins (e := 0) (t := { data := #[98] }) (lo := 1) (by decide) form_b_K (Lib.hid place_ab) (Lib.hid rfl) (by simp) (by simp) (by rw [sum_one, List.length_append]; have := hn.out; have := hm.out; omega) _ HS3 op_none (Lib.hid (by decide)) (Lib.hid (by decide)) b m cb lq hm HP3 (Lib.hid (by_apart HBQ.out (Nat.le_trans HB1.out.size HS3.out.fbase))) (by decide) (by rw [sum_one, List.length_append]; have := hn.out; have := hm.out; omega) (by decide)).mono ?_; rintro z w6 ⟨rfl, f2, fc2, r2, A3, cap3, h1⟩; rw [ins_ab] at h1; have HS4 := Lib.hid h1; clear h1 HS3)
          | (go_at_call 15; refine (sync_yes (by simp) _ HS4 (Lib.hid there_ab_b) op_none (Lib.hid (by decide)) (Lib.hid (by decide))).mono ?_; rintro z w7 ⟨rfl, h1⟩; rw [set_ab] at h1; have HS5 := Lib.hid h1; clear h1 HS4)
          | (go_at_call 17; refine (rename_A (i := 0) (lo := 0) (by simp) (by decide) form_b_K _ (Lib.hid (.inr ⟨_, _, _, HS5.out⟩)) (Lib.hid there_ab_a) (Lib.hid place_bb) op_none (Lib.hid (by decide)) (Lib.hid (by decide))).mono ?_; rintro z w8 ⟨rfl, h1⟩; rw [called_ab] at h1; obtain ⟨f3, fc3, r3, h1⟩ := sa_some h1; have HS6 := Lib.hid h1; clear h1 HS5)
          | (go_at_call 23; refine (restart_M (some ⟨_, 0, none⟩) [keep] 1 1 (Lib.hid rfl) 1 (Lib.hid rfl) (by decide) (Lib.hid (sure_du (by have := hn.out; have := hm.out; omega))) _ (sn_alloc HS6 _) (Lib.hid (ints_new _ _)) (Lib.hid (sn_ng HS6)) (Lib.hid (sn_nf HS6))).mono ?_; rintro z w9 ⟨rfl, h1, -, -⟩; rw [HFA.out] at h1; have HS7 := Lib.hid h1; clear h1 HS6)
          | (go_at_call 25; refine (read_yes (by simp) _ (by show lr.length ≤ _; omega) HS7 (there_one (t := { data := #[98] }) rfl (by decide) form_b_K)).mono ?_; rintro z w10 ⟨B, c, rfl, own, hb⟩; have HO := Lib.hid own.byAt; have HS8 := Lib.hid (HS7.out.next hb); clear own hb HS7))
        have HW8 : Hid (Below W.heap.size W w10) := Lib.hid (below_gb HB1.out HS8.out.below (Nat.le_trans HB1.out.size HGN.out))
        have HS9 := Lib.hid (HS8.out.drew)
        have hh0 : Below w10.heap.size w10 w10.drew := (Below.refl _ _).drew
        refine wp_region_held_drew (S := fun w => Below w10.heap.size w10 w) (by kernel_rfl) hh0 (fun hHeld => ?_)
        have hsz : (strB l).size + (strB (lq.take m)).size ≤ 9223372036854775807 := by rw [strB_size, strB_size, List.length_take]; have := hn.out; have := hm.out; omega
        refine wpAnyH_take (i := 0) (v := .int .i64 0) rfl (by kernel_rfl) (by kernel_rfl) (by kernel_rfl) (fun _ _ _ h => h) (Or.inl ⟨by rfl, fun _ _ => rfl⟩) hHeld ?_
        try dsimp only
        try simp only [Act.put, List.getElem_toArray, List.getElem_cons_zero, List.getElem_cons_succ, List.setIfInBounds_toArray, List.set_cons_zero, List.set_cons_succ]
        refine wpAnyH_take (i := 1) (v := .bool true) rfl (by kernel_rfl) (by kernel_rfl) (by kernel_rfl) (fun _ _ _ h => h) (Or.inl ⟨by rfl, fun w _ => by go_simp⟩) hHeld ?_
        try dsimp only
        try simp only [Act.put, List.getElem_toArray, List.getElem_cons_zero, List.getElem_cons_succ, List.setIfInBounds_toArray, List.set_cons_zero, List.set_cons_succ]
        refine wpAnyH_take (i := 2) (v := .bool true) rfl (by kernel_rfl) (by kernel_rfl) (by kernel_rfl) (fun _ _ _ h => h) (Or.inl ⟨by rfl, fun _ _ => rfl⟩) hHeld ?_
        try dsimp only
        try simp only [Act.put, List.getElem_toArray, List.getElem_cons_zero, List.getElem_cons_succ, List.setIfInBounds_toArray, List.set_cons_zero, List.set_cons_succ]
        refine wpAnyH_take (i := 3) (v := .slice B lr.length c) rfl (by kernel_rfl) (by kernel_rfl) (by kernel_rfl) (fun _ _ _ h => h) (Or.inl ⟨by rfl, fun _ _ => rfl⟩) hHeld ?_
        try dsimp only
        try simp only [Act.put, List.getElem_toArray, List.getElem_cons_zero, List.getElem_cons_succ, List.setIfInBounds_toArray, List.set_cons_zero, List.set_cons_succ]
        refine wpAnyH_take (i := 4) (v := .string (strB l ++ strB (lq.take m))) rfl (by kernel_rfl) (by kernel_rfl) (by kernel_rfl) (fun _ _ _ h => h) (yieldsIf_conv rfl (.tmp 84) rfl (.slice B lr.length c) _ rfl (fun w' hw' => by rw [← HLR.out]; exact conv_by lr.length c (HO.out.keep hw') rfl)) hHeld ?_
        try dsimp only
        try simp only [Act.put, List.getElem_toArray, List.getElem_cons_zero, List.getElem_cons_succ, List.setIfInBounds_toArray, List.set_cons_zero, List.set_cons_succ]
        refine wpAnyH_take (i := 5) (v := .slice a n ca) rfl (by kernel_rfl) (by kernel_rfl) (by kernel_rfl) (fun _ _ _ h => h) (Or.inl ⟨by rfl, fun _ _ => rfl⟩) hHeld ?_
        try dsimp only
        try simp only [Act.put, List.getElem_toArray, List.getElem_cons_zero, List.getElem_cons_succ, List.setIfInBounds_toArray, List.set_cons_zero, List.set_cons_succ]
        refine wpAnyH_take (i := 6) (v := .string (strB l)) rfl (by kernel_rfl) (by kernel_rfl) (by kernel_rfl) (fun _ _ _ h => h) (yieldsIf_conv rfl (.tmp 86) rfl (.slice a n ca) _ rfl (fun w' hw' => conv_by n ca ((HA.out.keep HW8.out).keep hw') hn.out)) hHeld ?_
        try dsimp only
        try simp only [Act.put, List.getElem_toArray, List.getElem_cons_zero, List.getElem_cons_succ, List.setIfInBounds_toArray, List.set_cons_zero, List.set_cons_succ]
        refine wpAnyH_take (i := 7) (v := .slice b m cb) rfl (by kernel_rfl) (by kernel_rfl) (by kernel_rfl) (fun _ _ _ h => h) (Or.inl ⟨by rfl, fun _ _ => rfl⟩) hHeld ?_
        try dsimp only
        try simp only [Act.put, List.getElem_toArray, List.getElem_cons_zero, List.getElem_cons_succ, List.setIfInBounds_toArray, List.set_cons_zero, List.set_cons_succ]
        refine wpAnyH_take (i := 8) (v := .int .i64 (m : Nat)) rfl (by kernel_rfl) (by kernel_rfl) (by kernel_rfl) (fun _ _ _ h => h) (Or.inl ⟨by rfl, fun _ _ => rfl⟩) hHeld ?_
        try dsimp only
        try simp only [Act.put, List.getElem_toArray, List.getElem_cons_zero, List.getElem_cons_succ, List.setIfInBounds_toArray, List.set_cons_zero, List.set_cons_succ]
        refine wpAnyH_take (i := 9) (v := .slice AQ m cb) rfl (by kernel_rfl) (by kernel_rfl) (by kernel_rfl) (fun _ _ _ h => h) (Or.inl ⟨by rfl, fun w _ => by have := HQ.out w; go_simp⟩) hHeld ?_
        try dsimp only
        try simp only [Act.put, List.getElem_toArray, List.getElem_cons_zero, List.getElem_cons_succ, List.setIfInBounds_toArray, List.set_cons_zero, List.set_cons_succ]
        refine wpAnyH_take (i := 10) (v := .string (strB (lq.take m))) rfl (by kernel_rfl) (by kernel_rfl) (by kernel_rfl) (fun _ _ _ h => h) (yieldsIf_conv rfl (.tmp 90) rfl (.slice AQ m cb) _ rfl (fun w' hw' => conv_by m cb (HQB.out w' lq hm.out ((HBQ.out.keep HW8.out).keep hw')) (by rw [List.length_take]; have := hm.out; omega))) hHeld ?_
        try dsimp only
        try simp only [Act.put, List.getElem_toArray, List.getElem_cons_zero, List.getElem_cons_succ, List.setIfInBounds_toArray, List.set_cons_zero, List.set_cons_succ]
        refine wpAnyH_take (i := 11) (v := .string (strB l ++ strB (lq.take m))) rfl (by kernel_rfl) (by kernel_rfl) (by kernel_rfl) (fun _ _ _ h => h) (Or.inl ⟨by rfl, fun w _ => by go_simp⟩) hHeld ?_
        try dsimp only
        try simp only [Act.put, List.getElem_toArray, List.getElem_cons_zero, List.getElem_cons_succ, List.setIfInBounds_toArray, List.set_cons_zero, List.set_cons_succ]
        refine wpAnyH_take (i := 12) (v := .bool true) rfl (by kernel_rfl) (by kernel_rfl) (by kernel_rfl) (fun _ _ _ h => h) (Or.inl ⟨by rfl, fun w _ => by go_simp⟩) hHeld ?_
        try dsimp only
        try simp only [Act.put, List.getElem_toArray, List.getElem_cons_zero, List.getElem_cons_succ, List.setIfInBounds_toArray, List.set_cons_zero, List.set_cons_succ]
        refine wpAnyH_take (i := 13) (v := .bool true) rfl (by kernel_rfl) (by kernel_rfl) (by kernel_rfl) (fun _ _ _ h => h) (Or.inl ⟨by rfl, fun _ _ => rfl⟩) hHeld ?_
        try dsimp only
        try simp only [Act.put, List.getElem_toArray, List.getElem_cons_zero, List.getElem_cons_succ, List.setIfInBounds_toArray, List.set_cons_zero, List.set_cons_succ]
        refine wpAnyH_take (i := 14) (v := .bool true) rfl (by kernel_rfl) (by kernel_rfl) (by kernel_rfl) (fun _ _ _ h => h) (Or.inl ⟨by rfl, fun _ _ => rfl⟩) hHeld ?_
        try dsimp only
        try simp only [Act.put, List.getElem_toArray, List.getElem_cons_zero, List.getElem_cons_succ, List.setIfInBounds_toArray, List.set_cons_zero, List.set_cons_succ]
        refine wpAnyH_take (i := 15) (v := .pointer (some ⟨g, 0, none⟩)) rfl (by kernel_rfl) (by kernel_rfl) (by kernel_rfl) (fun _ _ _ h => h) (Or.inl ⟨by rfl, fun _ _ => rfl⟩) hHeld ?_
        try dsimp only
        try simp only [Act.put, List.getElem_toArray, List.getElem_cons_zero, List.getElem_cons_succ, List.setIfInBounds_toArray, List.set_cons_zero, List.set_cons_succ]
        refine wpAnyH_ready (rs := [16]) (by kernel_rfl) (by simp) (AllReadyH.cons rfl (fun K hK => ?_) AllReadyH.nil)
        go_simp
        refine (list_any 1 (Lib.hid rfl) (by decide) _ (Lib.hid (HS8.out.next hHeld))).mono ?_
        rintro z w11 ⟨q, rfl, -, -, -, -, hb⟩
        replace hHeld := below_to hHeld hb
        clear hb
        refine hK.out _ _ hHeld (fun hHeld => ?_)
        clear hK K
        try dsimp only
        try simp only [Act.put, List.getElem_toArray, List.getElem_cons_zero, List.getElem_cons_succ, List.setIfInBounds_toArray, List.set_cons_zero, List.set_cons_succ]
        refine wpAnyH_ready (rs := [17]) (by kernel_rfl) (by simp) (AllReadyH.cons rfl (fun K hK => ?_) AllReadyH.nil)
        go_simp
        refine hK.out _ _ hHeld (fun hHeld => ?_)
        clear hK K
        try dsimp only
        try simp only [Act.put, List.getElem_toArray, List.getElem_cons_zero, List.getElem_cons_succ, List.setIfInBounds_toArray, List.set_cons_zero, List.set_cons_succ]
        refine wpAnyH_ready (rs := [18]) (by kernel_rfl) (by simp) (AllReadyH.cons rfl (fun K hK => ?_) AllReadyH.nil)
        go_simp
        refine hK.out _ _ hHeld (fun hHeld => ?_)
        clear hK K
        try dsimp only
        try simp only [Act.put, List.getElem_toArray, List.getElem_cons_zero, List.getElem_cons_succ, List.setIfInBounds_toArray, List.set_cons_zero, List.set_cons_succ]
        refine wpAnyH_ready (rs := [19]) (by kernel_rfl) (by simp) (AllReadyH.cons rfl (fun K hK => ?_) AllReadyH.nil)
        go_simp
        refine hK.out _ _ hHeld (fun hHeld => ?_)
        clear hK K
        try dsimp only
        try simp only [Act.put, List.getElem_toArray, List.getElem_cons_zero, List.getElem_cons_succ, List.setIfInBounds_toArray, List.set_cons_zero, List.set_cons_succ]
        refine wpAnyH_ready (rs := [20]) (by kernel_rfl) (by simp) (AllReadyH.cons rfl (fun K hK => ?_) AllReadyH.nil)
        go_simp
        refine hK.out _ _ hHeld (fun hHeld => ?_)
        clear hK K
        try dsimp only
        try simp only [Act.put, List.getElem_toArray, List.getElem_cons_zero, List.getElem_cons_succ, List.setIfInBounds_toArray, List.set_cons_zero, List.set_cons_succ]
        refine wpAnyH_done (by kernel_rfl) ?_ _
        go_wp2
        go_ret
        exact ⟨rfl, below_to HW8.out hHeld⟩
      · skip
        obtain ⟨hk1, hk2⟩ := hk
        have HFA := Lib.hid (fun A cap => sure_fall { data := #[98] } A cap l lq keep m (by have := hm.out; omega))
        obtain ⟨lr, hlr⟩ : ∃ lr, lr = l ++ lq.take m := ⟨_, rfl⟩
        rw [← hlr] at HFA
        have HLR : Hid (strB lr = strB l ++ strB (lq.take m)) := Lib.hid (by rw [hlr, strB_append])
        have HLL : Hid (lr.length = n + m) := Lib.hid (by rw [hlr, List.length_append, List.length_take]; have := hn.out; have := hm.out; omega)
        have hlr8 : lr.length ≤ 3000 := by have := HLL.out; omega
        obtain ⟨AQ, HQ, HQB⟩ := cut_to b m cb m (by omega) hcb
        have HQ := Lib.hid HQ
        have HQB := Lib.hid HQB
        clear hlr
        go_enter Try.func4, Try.ntmps4
        go_upto_region 16 with (first
          | (go_at_call 10; refine (awake_any _).mono ?_; rintro e w1 ⟨rfl, hb⟩; have HB1 := Lib.hid hb; clear hb)
          | (go_at_call 11; refine (new_any 5000 (by decide) _).mono ?_; rintro e w2 ⟨g, rfl, hgn, h0⟩; have HS0 := Lib.hid h0; have HGN := Lib.hid hgn; have HP0 : Hid (ByAt w2 a l) := Lib.hid (HA.out.keep (below_gb HB1.out h0.below (Nat.le_trans HB1.out.size hgn))); clear h0 hgn)
          | (go_at_call 13; refine (append_first (e := 0) (t := { data := #[97] }) (by decide) form_a_K _ HS0 op_none (Lib.hid (by decide)) (Lib.hid (by decide)) a n ca l hn HP0 (by decide) (by omega)).mono ?_; rintro z w3 ⟨rfl, f1, fc1, r1, A1, cap1, h1⟩; have HS1 := Lib.hid h1; clear h1 HS0)
          | (go_at_call 15; refine (sync_yes (by simp) _ HS1 (there_one (t := { data := #[97] }) rfl (by decide) form_a_K) op_none (Lib.hid (by decide)) (Lib.hid (by decide))).mono ?_; rintro z w4 ⟨rfl, h1⟩; rw [one_set] at h1; have HS2 := Lib.hid h1; have HP2 : Hid (ByAt w4 b lq) := Lib.hid (HBQ.out.keep (below_gb HB1.out h1.below (Nat.le_trans HB1.out.size HGN.out))); clear h1 HS1)
          | (go_at_call 13; refine (append_yes (e := 0) (by simp) (by rw [sum_one]; have := hn.out; omega) _ HS2 (there_one (t := { data := #[97] }) rfl (by decide) form_a_K) op_none (Lib.hid (by decide)) (Lib.hid (by decide)) b m cb lq hm HP2 (by decide) (by rw [sum_one]; have := hn.out; omega) (by decide) (by have := hn.out; show l.length ≤ _; omega)).mono ?_; rintro z w5 ⟨rfl, A2, cap2, h1⟩; rw [one_set] at h1; have HS3 := Lib.hid h1; have HP3 : Hid (ByAt w5 b lq) := Lib.hid (HBQ.out.keep (below_gb HB1.out h1.below (Nat.le_trans HB1.out.size HGN.out))); clear h1 HS2)
          | (go_at_call 13; refine (append_ins (e := 0) (t := { data := #[98] }) (lo := 1) (by decide) form_b_K (Lib.hid place_ab) (Lib.hid rfl) (by simp) (by simp) (by rw [sum_one, List.length_append]; have := hn.out; have := hm.out; omega) _ HS3 op_none (Lib.hid (by decide)) (Lib.hid (by decide)) b m cb lq hm HP3 (Lib.hid (by_apart HBQ.out (Nat.le_trans HB1.out.size HS3.out.fbase))) (by decide) (by rw [sum_one, List.length_append]; have := hn.out; have := hm.out; omega) (by decide)).mono ?_; rintro z w6 ⟨rfl, f2, fc2, r2, A3, cap3, h1⟩; rw [ins_ab] at h1; have HS4 := Lib.hid h1; clear h1 HS3)
          | (go_at_call 15; refine (sync_yes (by simp) _ HS4 (Lib.hid there_ab_b) op_none (Lib.hid (by decide)) (Lib.hid (by decide))).mono ?_; rintro z w7 ⟨rfl, h1⟩; rw [set_ab] at h1; have HS5 := Lib.hid h1; clear h1 HS4)
          | (go_at_call 17; refine (rename_A (i := 0) (lo := 0) (by simp) (by decide) form_b_K _ (Lib.hid (.inr ⟨_, _, _, HS5.out⟩)) (Lib.hid there_ab_a) (Lib.hid place_bb) op_none (Lib.hid (by decide)) (Lib.hid (by decide))).mono ?_; rintro z w8 ⟨rfl, h1⟩; rw [called_ab] at h1; obtain ⟨f3, fc3, r3, h1⟩ := sa_some h1; have HS6 := Lib.hid h1; clear h1 HS5)
          | (go_at_call 23; refine (restart_M (some ⟨_, 0, none⟩) [keep] 1 1 (Lib.hid rfl) 1 (Lib.hid rfl) (by decide) (Lib.hid (sure_du (by have := hn.out; have := hm.out; omega))) _ (sn_alloc HS6 _) (Lib.hid (ints_new _ _)) (Lib.hid (sn_ng HS6)) (Lib.hid (sn_nf HS6))).mono ?_; rintro z w9 ⟨rfl, h1, -, -⟩; rw [HFA.out] at h1; have HS7 := Lib.hid h1; clear h1 HS6)
          | (go_at_call 25; refine (read_yes (by simp) _ (by show lr.length ≤ _; omega) HS7 (there_one (t := { data := #[98] }) rfl (by decide) form_b_K)).mono ?_; rintro z w10 ⟨B, c, rfl, own, hb⟩; have HO := Lib.hid own.byAt; have HS8 := Lib.hid (HS7.out.next hb); clear own hb HS7))
        have HW8 : Hid (Below W.heap.size W w10) := Lib.hid (below_gb HB1.out HS8.out.below (Nat.le_trans HB1.out.size HGN.out))
        have HS9 := Lib.hid (HS8.out.drew)
        have hh0 : Below w10.heap.size w10 w10.drew := (Below.refl _ _).drew
        refine wp_region_held_drew (S := fun w => Below w10.heap.size w10 w) (by kernel_rfl) hh0 (fun hHeld => ?_)
        have hsz : (strB l).size + (strB (lq.take m)).size ≤ 9223372036854775807 := by rw [strB_size, strB_size, List.length_take]; have := hn.out; have := hm.out; omega
        refine wpAnyH_take (i := 0) (v := .int .i64 0) rfl (by kernel_rfl) (by kernel_rfl) (by kernel_rfl) (fun _ _ _ h => h) (Or.inl ⟨by rfl, fun _ _ => rfl⟩) hHeld ?_
        try dsimp only
        try simp only [Act.put, List.getElem_toArray, List.getElem_cons_zero, List.getElem_cons_succ, List.setIfInBounds_toArray, List.set_cons_zero, List.set_cons_succ]
        refine wpAnyH_take (i := 1) (v := .bool true) rfl (by kernel_rfl) (by kernel_rfl) (by kernel_rfl) (fun _ _ _ h => h) (Or.inl ⟨by rfl, fun w _ => by go_simp⟩) hHeld ?_
        try dsimp only
        try simp only [Act.put, List.getElem_toArray, List.getElem_cons_zero, List.getElem_cons_succ, List.setIfInBounds_toArray, List.set_cons_zero, List.set_cons_succ]
        refine wpAnyH_take (i := 2) (v := .bool true) rfl (by kernel_rfl) (by kernel_rfl) (by kernel_rfl) (fun _ _ _ h => h) (Or.inl ⟨by rfl, fun _ _ => rfl⟩) hHeld ?_
        try dsimp only
        try simp only [Act.put, List.getElem_toArray, List.getElem_cons_zero, List.getElem_cons_succ, List.setIfInBounds_toArray, List.set_cons_zero, List.set_cons_succ]
        refine wpAnyH_take (i := 3) (v := .slice B lr.length c) rfl (by kernel_rfl) (by kernel_rfl) (by kernel_rfl) (fun _ _ _ h => h) (Or.inl ⟨by rfl, fun _ _ => rfl⟩) hHeld ?_
        try dsimp only
        try simp only [Act.put, List.getElem_toArray, List.getElem_cons_zero, List.getElem_cons_succ, List.setIfInBounds_toArray, List.set_cons_zero, List.set_cons_succ]
        refine wpAnyH_take (i := 4) (v := .string (strB l ++ strB (lq.take m))) rfl (by kernel_rfl) (by kernel_rfl) (by kernel_rfl) (fun _ _ _ h => h) (yieldsIf_conv rfl (.tmp 84) rfl (.slice B lr.length c) _ rfl (fun w' hw' => by rw [← HLR.out]; exact conv_by lr.length c (HO.out.keep hw') rfl)) hHeld ?_
        try dsimp only
        try simp only [Act.put, List.getElem_toArray, List.getElem_cons_zero, List.getElem_cons_succ, List.setIfInBounds_toArray, List.set_cons_zero, List.set_cons_succ]
        refine wpAnyH_take (i := 5) (v := .slice a n ca) rfl (by kernel_rfl) (by kernel_rfl) (by kernel_rfl) (fun _ _ _ h => h) (Or.inl ⟨by rfl, fun _ _ => rfl⟩) hHeld ?_
        try dsimp only
        try simp only [Act.put, List.getElem_toArray, List.getElem_cons_zero, List.getElem_cons_succ, List.setIfInBounds_toArray, List.set_cons_zero, List.set_cons_succ]
        refine wpAnyH_take (i := 6) (v := .string (strB l)) rfl (by kernel_rfl) (by kernel_rfl) (by kernel_rfl) (fun _ _ _ h => h) (yieldsIf_conv rfl (.tmp 86) rfl (.slice a n ca) _ rfl (fun w' hw' => conv_by n ca ((HA.out.keep HW8.out).keep hw') hn.out)) hHeld ?_
        try dsimp only
        try simp only [Act.put, List.getElem_toArray, List.getElem_cons_zero, List.getElem_cons_succ, List.setIfInBounds_toArray, List.set_cons_zero, List.set_cons_succ]
        refine wpAnyH_take (i := 7) (v := .slice b m cb) rfl (by kernel_rfl) (by kernel_rfl) (by kernel_rfl) (fun _ _ _ h => h) (Or.inl ⟨by rfl, fun _ _ => rfl⟩) hHeld ?_
        try dsimp only
        try simp only [Act.put, List.getElem_toArray, List.getElem_cons_zero, List.getElem_cons_succ, List.setIfInBounds_toArray, List.set_cons_zero, List.set_cons_succ]
        refine wpAnyH_take (i := 8) (v := .int .i64 (m : Nat)) rfl (by kernel_rfl) (by kernel_rfl) (by kernel_rfl) (fun _ _ _ h => h) (Or.inl ⟨by rfl, fun _ _ => rfl⟩) hHeld ?_
        try dsimp only
        try simp only [Act.put, List.getElem_toArray, List.getElem_cons_zero, List.getElem_cons_succ, List.setIfInBounds_toArray, List.set_cons_zero, List.set_cons_succ]
        refine wpAnyH_take (i := 9) (v := .slice AQ m cb) rfl (by kernel_rfl) (by kernel_rfl) (by kernel_rfl) (fun _ _ _ h => h) (Or.inl ⟨by rfl, fun w _ => by have := HQ.out w; go_simp⟩) hHeld ?_
        try dsimp only
        try simp only [Act.put, List.getElem_toArray, List.getElem_cons_zero, List.getElem_cons_succ, List.setIfInBounds_toArray, List.set_cons_zero, List.set_cons_succ]
        refine wpAnyH_take (i := 10) (v := .string (strB (lq.take m))) rfl (by kernel_rfl) (by kernel_rfl) (by kernel_rfl) (fun _ _ _ h => h) (yieldsIf_conv rfl (.tmp 90) rfl (.slice AQ m cb) _ rfl (fun w' hw' => conv_by m cb (HQB.out w' lq hm.out ((HBQ.out.keep HW8.out).keep hw')) (by rw [List.length_take]; have := hm.out; omega))) hHeld ?_
        try dsimp only
        try simp only [Act.put, List.getElem_toArray, List.getElem_cons_zero, List.getElem_cons_succ, List.setIfInBounds_toArray, List.set_cons_zero, List.set_cons_succ]
        refine wpAnyH_take (i := 11) (v := .string (strB l ++ strB (lq.take m))) rfl (by kernel_rfl) (by kernel_rfl) (by kernel_rfl) (fun _ _ _ h => h) (Or.inl ⟨by rfl, fun w _ => by go_simp⟩) hHeld ?_
        try dsimp only
        try simp only [Act.put, List.getElem_toArray, List.getElem_cons_zero, List.getElem_cons_succ, List.setIfInBounds_toArray, List.set_cons_zero, List.set_cons_succ]
        refine wpAnyH_take (i := 12) (v := .bool true) rfl (by kernel_rfl) (by kernel_rfl) (by kernel_rfl) (fun _ _ _ h => h) (Or.inl ⟨by rfl, fun w _ => by go_simp⟩) hHeld ?_
        try dsimp only
        try simp only [Act.put, List.getElem_toArray, List.getElem_cons_zero, List.getElem_cons_succ, List.setIfInBounds_toArray, List.set_cons_zero, List.set_cons_succ]
        refine wpAnyH_take (i := 13) (v := .bool true) rfl (by kernel_rfl) (by kernel_rfl) (by kernel_rfl) (fun _ _ _ h => h) (Or.inl ⟨by rfl, fun _ _ => rfl⟩) hHeld ?_
        try dsimp only
        try simp only [Act.put, List.getElem_toArray, List.getElem_cons_zero, List.getElem_cons_succ, List.setIfInBounds_toArray, List.set_cons_zero, List.set_cons_succ]
        refine wpAnyH_take (i := 14) (v := .bool true) rfl (by kernel_rfl) (by kernel_rfl) (by kernel_rfl) (fun _ _ _ h => h) (Or.inl ⟨by rfl, fun _ _ => rfl⟩) hHeld ?_
        try dsimp only
        try simp only [Act.put, List.getElem_toArray, List.getElem_cons_zero, List.getElem_cons_succ, List.setIfInBounds_toArray, List.set_cons_zero, List.set_cons_succ]
        refine wpAnyH_take (i := 15) (v := .pointer (some ⟨g, 0, none⟩)) rfl (by kernel_rfl) (by kernel_rfl) (by kernel_rfl) (fun _ _ _ h => h) (Or.inl ⟨by rfl, fun _ _ => rfl⟩) hHeld ?_
        try dsimp only
        try simp only [Act.put, List.getElem_toArray, List.getElem_cons_zero, List.getElem_cons_succ, List.setIfInBounds_toArray, List.set_cons_zero, List.set_cons_succ]
        refine wpAnyH_ready (rs := [16]) (by kernel_rfl) (by simp) (AllReadyH.cons rfl (fun K hK => ?_) AllReadyH.nil)
        go_simp
        refine (list_any 1 (Lib.hid rfl) (by decide) _ (Lib.hid (HS8.out.next hHeld))).mono ?_
        rintro z w11 ⟨q, rfl, -, -, -, -, hb⟩
        replace hHeld := below_to hHeld hb
        clear hb
        refine hK.out _ _ hHeld (fun hHeld => ?_)
        clear hK K
        try dsimp only
        try simp only [Act.put, List.getElem_toArray, List.getElem_cons_zero, List.getElem_cons_succ, List.setIfInBounds_toArray, List.set_cons_zero, List.set_cons_succ]
        refine wpAnyH_ready (rs := [17]) (by kernel_rfl) (by simp) (AllReadyH.cons rfl (fun K hK => ?_) AllReadyH.nil)
        go_simp
        refine hK.out _ _ hHeld (fun hHeld => ?_)
        clear hK K
        try dsimp only
        try simp only [Act.put, List.getElem_toArray, List.getElem_cons_zero, List.getElem_cons_succ, List.setIfInBounds_toArray, List.set_cons_zero, List.set_cons_succ]
        refine wpAnyH_ready (rs := [18]) (by kernel_rfl) (by simp) (AllReadyH.cons rfl (fun K hK => ?_) AllReadyH.nil)
        go_simp
        refine hK.out _ _ hHeld (fun hHeld => ?_)
        clear hK K
        try dsimp only
        try simp only [Act.put, List.getElem_toArray, List.getElem_cons_zero, List.getElem_cons_succ, List.setIfInBounds_toArray, List.set_cons_zero, List.set_cons_succ]
        refine wpAnyH_ready (rs := [19]) (by kernel_rfl) (by simp) (AllReadyH.cons rfl (fun K hK => ?_) AllReadyH.nil)
        go_simp
        refine hK.out _ _ hHeld (fun hHeld => ?_)
        clear hK K
        try dsimp only
        try simp only [Act.put, List.getElem_toArray, List.getElem_cons_zero, List.getElem_cons_succ, List.setIfInBounds_toArray, List.set_cons_zero, List.set_cons_succ]
        refine wpAnyH_ready (rs := [20]) (by kernel_rfl) (by simp) (AllReadyH.cons rfl (fun K hK => ?_) AllReadyH.nil)
        go_simp
        refine hK.out _ _ hHeld (fun hHeld => ?_)
        clear hK K
        try dsimp only
        try simp only [Act.put, List.getElem_toArray, List.getElem_cons_zero, List.getElem_cons_succ, List.setIfInBounds_toArray, List.set_cons_zero, List.set_cons_succ]
        refine wpAnyH_done (by kernel_rfl) ?_ _
        go_wp2
        go_ret
        exact ⟨rfl, below_to HW8.out hHeld⟩
      · skip
        obtain ⟨hk1, hk2⟩ := hk
        obtain ⟨K, rfl⟩ : ∃ K : Nat, keep = (K : Int) := ⟨keep.toNat, by omega⟩
        have HFA := Lib.hid (fun A cap => sure_fall { data := #[98] } A cap l lq (K : Int) K (by have := hm.out; omega))
        obtain ⟨lr, hlr⟩ : ∃ lr, lr = l ++ lq.take K := ⟨_, rfl⟩
        rw [← hlr] at HFA
        have HLR : Hid (strB lr = strB l ++ strB (lq.take K)) := Lib.hid (by rw [hlr, strB_append])
        have HLL : Hid (lr.length = n + K) := Lib.hid (by rw [hlr, List.length_append, List.length_take]; have := hn.out; have := hm.out; omega)
        have hlr8 : lr.length ≤ 3000 := by have := HLL.out; omega
        obtain ⟨AQ, HQ, HQB⟩ := cut_to b m cb K (by omega) hcb
        have HQ := Lib.hid HQ
        have HQB := Lib.hid HQB
        clear hlr
        go_enter Try.func4, Try.ntmps4
        go_upto_region 16 with (first
          | (go_at_call 10; refine (awake_any _).mono ?_; rintro e w1 ⟨rfl, hb⟩; have HB1 := Lib.hid hb; clear hb)
          | (go_at_call 11; refine (new_any 5000 (by decide) _).mono ?_; rintro e w2 ⟨g, rfl, hgn, h0⟩; have HS0 := Lib.hid h0; have HGN := Lib.hid hgn; have HP0 : Hid (ByAt w2 a l) := Lib.hid (HA.out.keep (below_gb HB1.out h0.below (Nat.le_trans HB1.out.size hgn))); clear h0 hgn)
          | (go_at_call 13; refine (append_first (e := 0) (t := { data := #[97] }) (by decide) form_a_K _ HS0 op_none (Lib.hid (by decide)) (Lib.hid (by decide)) a n ca l hn HP0 (by decide) (by omega)).mono ?_; rintro z w3 ⟨rfl, f1, fc1, r1, A1, cap1, h1⟩; have HS1 := Lib.hid h1; clear h1 HS0)
          | (go_at_call 15; refine (sync_yes (by simp) _ HS1 (there_one (t := { data := #[97] }) rfl (by decide) form_a_K) op_none (Lib.hid (by decide)) (Lib.hid (by decide))).mono ?_; rintro z w4 ⟨rfl, h1⟩; rw [one_set] at h1; have HS2 := Lib.hid h1; have HP2 : Hid (ByAt w4 b lq) := Lib.hid (HBQ.out.keep (below_gb HB1.out h1.below (Nat.le_trans HB1.out.size HGN.out))); clear h1 HS1)
          | (go_at_call 13; refine (append_yes (e := 0) (by simp) (by rw [sum_one]; have := hn.out; omega) _ HS2 (there_one (t := { data := #[97] }) rfl (by decide) form_a_K) op_none (Lib.hid (by decide)) (Lib.hid (by decide)) b m cb lq hm HP2 (by decide) (by rw [sum_one]; have := hn.out; omega) (by decide) (by have := hn.out; show l.length ≤ _; omega)).mono ?_; rintro z w5 ⟨rfl, A2, cap2, h1⟩; rw [one_set] at h1; have HS3 := Lib.hid h1; have HP3 : Hid (ByAt w5 b lq) := Lib.hid (HBQ.out.keep (below_gb HB1.out h1.below (Nat.le_trans HB1.out.size HGN.out))); clear h1 HS2)
          | (go_at_call 13; refine (append_ins (e := 0) (t := { data := #[98] }) (lo := 1) (by decide) form_b_K (Lib.hid place_ab) (Lib.hid rfl) (by simp) (by simp) (by rw [sum_one, List.length_append]; have := hn.out; have := hm.out; omega) _ HS3 op_none (Lib.hid (by decide)) (Lib.hid (by decide)) b m cb lq hm HP3 (Lib.hid (by_apart HBQ.out (Nat.le_trans HB1.out.size HS3.out.fbase))) (by decide) (by rw [sum_one, List.length_append]; have := hn.out; have := hm.out; omega) (by decide)).mono ?_; rintro z w6 ⟨rfl, f2, fc2, r2, A3, cap3, h1⟩; rw [ins_ab] at h1; have HS4 := Lib.hid h1; clear h1 HS3)
          | (go_at_call 15; refine (sync_yes (by simp) _ HS4 (Lib.hid there_ab_b) op_none (Lib.hid (by decide)) (Lib.hid (by decide))).mono ?_; rintro z w7 ⟨rfl, h1⟩; rw [set_ab] at h1; have HS5 := Lib.hid h1; clear h1 HS4)
          | (go_at_call 17; refine (rename_A (i := 0) (lo := 0) (by simp) (by decide) form_b_K _ (Lib.hid (.inr ⟨_, _, _, HS5.out⟩)) (Lib.hid there_ab_a) (Lib.hid place_bb) op_none (Lib.hid (by decide)) (Lib.hid (by decide))).mono ?_; rintro z w8 ⟨rfl, h1⟩; rw [called_ab] at h1; obtain ⟨f3, fc3, r3, h1⟩ := sa_some h1; have HS6 := Lib.hid h1; clear h1 HS5)
          | (go_at_call 23; refine (restart_M (some ⟨_, 0, none⟩) [(K : Int)] 1 1 (Lib.hid rfl) 1 (Lib.hid rfl) (by decide) (Lib.hid (sure_du (by have := hn.out; have := hm.out; omega))) _ (sn_alloc HS6 _) (Lib.hid (ints_new _ _)) (Lib.hid (sn_ng HS6)) (Lib.hid (sn_nf HS6))).mono ?_; rintro z w9 ⟨rfl, h1, -, -⟩; rw [HFA.out] at h1; have HS7 := Lib.hid h1; clear h1 HS6)
          | (go_at_call 25; refine (read_yes (by simp) _ (by show lr.length ≤ _; omega) HS7 (there_one (t := { data := #[98] }) rfl (by decide) form_b_K)).mono ?_; rintro z w10 ⟨B, c, rfl, own, hb⟩; have HO := Lib.hid own.byAt; have HS8 := Lib.hid (HS7.out.next hb); clear own hb HS7))
        have HW8 : Hid (Below W.heap.size W w10) := Lib.hid (below_gb HB1.out HS8.out.below (Nat.le_trans HB1.out.size HGN.out))
        have HS9 := Lib.hid (HS8.out.drew)
        have hh0 : Below w10.heap.size w10 w10.drew := (Below.refl _ _).drew
        refine wp_region_held_drew (S := fun w => Below w10.heap.size w10 w) (by kernel_rfl) hh0 (fun hHeld => ?_)
        have hsz : (strB l).size + (strB (lq.take K)).size ≤ 9223372036854775807 := by rw [strB_size, strB_size, List.length_take]; have := hn.out; have := hm.out; omega
        refine wpAnyH_take (i := 0) (v := .int .i64 0) rfl (by kernel_rfl) (by kernel_rfl) (by kernel_rfl) (fun _ _ _ h => h) (Or.inl ⟨by rfl, fun _ _ => rfl⟩) hHeld ?_
        try dsimp only
        try simp only [Act.put, List.getElem_toArray, List.getElem_cons_zero, List.getElem_cons_succ, List.setIfInBounds_toArray, List.set_cons_zero, List.set_cons_succ]
        refine wpAnyH_take (i := 1) (v := .bool true) rfl (by kernel_rfl) (by kernel_rfl) (by kernel_rfl) (fun _ _ _ h => h) (Or.inl ⟨by rfl, fun w _ => by go_simp⟩) hHeld ?_
        try dsimp only
        try simp only [Act.put, List.getElem_toArray, List.getElem_cons_zero, List.getElem_cons_succ, List.setIfInBounds_toArray, List.set_cons_zero, List.set_cons_succ]
        refine wpAnyH_take (i := 2) (v := .bool true) rfl (by kernel_rfl) (by kernel_rfl) (by kernel_rfl) (fun _ _ _ h => h) (Or.inl ⟨by rfl, fun _ _ => rfl⟩) hHeld ?_
        try dsimp only
        try simp only [Act.put, List.getElem_toArray, List.getElem_cons_zero, List.getElem_cons_succ, List.setIfInBounds_toArray, List.set_cons_zero, List.set_cons_succ]
        refine wpAnyH_take (i := 3) (v := .slice B lr.length c) rfl (by kernel_rfl) (by kernel_rfl) (by kernel_rfl) (fun _ _ _ h => h) (Or.inl ⟨by rfl, fun _ _ => rfl⟩) hHeld ?_
        try dsimp only
        try simp only [Act.put, List.getElem_toArray, List.getElem_cons_zero, List.getElem_cons_succ, List.setIfInBounds_toArray, List.set_cons_zero, List.set_cons_succ]
        refine wpAnyH_take (i := 4) (v := .string (strB l ++ strB (lq.take K))) rfl (by kernel_rfl) (by kernel_rfl) (by kernel_rfl) (fun _ _ _ h => h) (yieldsIf_conv rfl (.tmp 84) rfl (.slice B lr.length c) _ rfl (fun w' hw' => by rw [← HLR.out]; exact conv_by lr.length c (HO.out.keep hw') rfl)) hHeld ?_
        try dsimp only
        try simp only [Act.put, List.getElem_toArray, List.getElem_cons_zero, List.getElem_cons_succ, List.setIfInBounds_toArray, List.set_cons_zero, List.set_cons_succ]
        refine wpAnyH_take (i := 5) (v := .slice a n ca) rfl (by kernel_rfl) (by kernel_rfl) (by kernel_rfl) (fun _ _ _ h => h) (Or.inl ⟨by rfl, fun _ _ => rfl⟩) hHeld ?_
        try dsimp only
        try simp only [Act.put, List.getElem_toArray, List.getElem_cons_zero, List.getElem_cons_succ, List.setIfInBounds_toArray, List.set_cons_zero, List.set_cons_succ]
        refine wpAnyH_take (i := 6) (v := .string (strB l)) rfl (by kernel_rfl) (by kernel_rfl) (by kernel_rfl) (fun _ _ _ h => h) (yieldsIf_conv rfl (.tmp 86) rfl (.slice a n ca) _ rfl (fun w' hw' => conv_by n ca ((HA.out.keep HW8.out).keep hw') hn.out)) hHeld ?_
        try dsimp only
        try simp only [Act.put, List.getElem_toArray, List.getElem_cons_zero, List.getElem_cons_succ, List.setIfInBounds_toArray, List.set_cons_zero, List.set_cons_succ]
        refine wpAnyH_take (i := 7) (v := .slice b m cb) rfl (by kernel_rfl) (by kernel_rfl) (by kernel_rfl) (fun _ _ _ h => h) (Or.inl ⟨by rfl, fun _ _ => rfl⟩) hHeld ?_
        try dsimp only
        try simp only [Act.put, List.getElem_toArray, List.getElem_cons_zero, List.getElem_cons_succ, List.setIfInBounds_toArray, List.set_cons_zero, List.set_cons_succ]
        refine wpAnyH_take (i := 8) (v := .int .i64 (K : Nat)) rfl (by kernel_rfl) (by kernel_rfl) (by kernel_rfl) (fun _ _ _ h => h) (Or.inl ⟨by rfl, fun _ _ => rfl⟩) hHeld ?_
        try dsimp only
        try simp only [Act.put, List.getElem_toArray, List.getElem_cons_zero, List.getElem_cons_succ, List.setIfInBounds_toArray, List.set_cons_zero, List.set_cons_succ]
        refine wpAnyH_take (i := 9) (v := .slice AQ K cb) rfl (by kernel_rfl) (by kernel_rfl) (by kernel_rfl) (fun _ _ _ h => h) (Or.inl ⟨by rfl, fun w _ => by have := HQ.out w; go_simp⟩) hHeld ?_
        try dsimp only
        try simp only [Act.put, List.getElem_toArray, List.getElem_cons_zero, List.getElem_cons_succ, List.setIfInBounds_toArray, List.set_cons_zero, List.set_cons_succ]
        refine wpAnyH_take (i := 10) (v := .string (strB (lq.take K))) rfl (by kernel_rfl) (by kernel_rfl) (by kernel_rfl) (fun _ _ _ h => h) (yieldsIf_conv rfl (.tmp 90) rfl (.slice AQ K cb) _ rfl (fun w' hw' => conv_by K cb (HQB.out w' lq hm.out ((HBQ.out.keep HW8.out).keep hw')) (by rw [List.length_take]; have := hm.out; omega))) hHeld ?_
        try dsimp only
        try simp only [Act.put, List.getElem_toArray, List.getElem_cons_zero, List.getElem_cons_succ, List.setIfInBounds_toArray, List.set_cons_zero, List.set_cons_succ]
        refine wpAnyH_take (i := 11) (v := .string (strB l ++ strB (lq.take K))) rfl (by kernel_rfl) (by kernel_rfl) (by kernel_rfl) (fun _ _ _ h => h) (Or.inl ⟨by rfl, fun w _ => by go_simp⟩) hHeld ?_
        try dsimp only
        try simp only [Act.put, List.getElem_toArray, List.getElem_cons_zero, List.getElem_cons_succ, List.setIfInBounds_toArray, List.set_cons_zero, List.set_cons_succ]
        refine wpAnyH_take (i := 12) (v := .bool true) rfl (by kernel_rfl) (by kernel_rfl) (by kernel_rfl) (fun _ _ _ h => h) (Or.inl ⟨by rfl, fun w _ => by go_simp⟩) hHeld ?_
        try dsimp only
        try simp only [Act.put, List.getElem_toArray, List.getElem_cons_zero, List.getElem_cons_succ, List.setIfInBounds_toArray, List.set_cons_zero, List.set_cons_succ]
        refine wpAnyH_take (i := 13) (v := .bool true) rfl (by kernel_rfl) (by kernel_rfl) (by kernel_rfl) (fun _ _ _ h => h) (Or.inl ⟨by rfl, fun _ _ => rfl⟩) hHeld ?_
        try dsimp only
        try simp only [Act.put, List.getElem_toArray, List.getElem_cons_zero, List.getElem_cons_succ, List.setIfInBounds_toArray, List.set_cons_zero, List.set_cons_succ]
        refine wpAnyH_take (i := 14) (v := .bool true) rfl (by kernel_rfl) (by kernel_rfl) (by kernel_rfl) (fun _ _ _ h => h) (Or.inl ⟨by rfl, fun _ _ => rfl⟩) hHeld ?_
        try dsimp only
        try simp only [Act.put, List.getElem_toArray, List.getElem_cons_zero, List.getElem_cons_succ, List.setIfInBounds_toArray, List.set_cons_zero, List.set_cons_succ]
        refine wpAnyH_take (i := 15) (v := .pointer (some ⟨g, 0, none⟩)) rfl (by kernel_rfl) (by kernel_rfl) (by kernel_rfl) (fun _ _ _ h => h) (Or.inl ⟨by rfl, fun _ _ => rfl⟩) hHeld ?_
        try dsimp only
        try simp only [Act.put, List.getElem_toArray, List.getElem_cons_zero, List.getElem_cons_succ, List.setIfInBounds_toArray, List.set_cons_zero, List.set_cons_succ]
        refine wpAnyH_ready (rs := [16]) (by kernel_rfl) (by simp) (AllReadyH.cons rfl (fun K hK => ?_) AllReadyH.nil)
        go_simp
        refine (list_any 1 (Lib.hid rfl) (by decide) _ (Lib.hid (HS8.out.next hHeld))).mono ?_
        rintro z w11 ⟨q, rfl, -, -, -, -, hb⟩
        replace hHeld := below_to hHeld hb
        clear hb
        refine hK.out _ _ hHeld (fun hHeld => ?_)
        clear hK K
        try dsimp only
        try simp only [Act.put, List.getElem_toArray, List.getElem_cons_zero, List.getElem_cons_succ, List.setIfInBounds_toArray, List.set_cons_zero, List.set_cons_succ]
        refine wpAnyH_ready (rs := [17]) (by kernel_rfl) (by simp) (AllReadyH.cons rfl (fun K hK => ?_) AllReadyH.nil)
        go_simp
        refine hK.out _ _ hHeld (fun hHeld => ?_)
        clear hK K
        try dsimp only
        try simp only [Act.put, List.getElem_toArray, List.getElem_cons_zero, List.getElem_cons_succ, List.setIfInBounds_toArray, List.set_cons_zero, List.set_cons_succ]
        refine wpAnyH_ready (rs := [18]) (by kernel_rfl) (by simp) (AllReadyH.cons rfl (fun K hK => ?_) AllReadyH.nil)
        go_simp
        refine hK.out _ _ hHeld (fun hHeld => ?_)
        clear hK K
        try dsimp only
        try simp only [Act.put, List.getElem_toArray, List.getElem_cons_zero, List.getElem_cons_succ, List.setIfInBounds_toArray, List.set_cons_zero, List.set_cons_succ]
        refine wpAnyH_ready (rs := [19]) (by kernel_rfl) (by simp) (AllReadyH.cons rfl (fun K hK => ?_) AllReadyH.nil)
        go_simp
        refine hK.out _ _ hHeld (fun hHeld => ?_)
        clear hK K
        try dsimp only
        try simp only [Act.put, List.getElem_toArray, List.getElem_cons_zero, List.getElem_cons_succ, List.setIfInBounds_toArray, List.set_cons_zero, List.set_cons_succ]
        refine wpAnyH_ready (rs := [20]) (by kernel_rfl) (by simp) (AllReadyH.cons rfl (fun K hK => ?_) AllReadyH.nil)
        go_simp
        refine hK.out _ _ hHeld (fun hHeld => ?_)
        clear hK K
        try dsimp only
        try simp only [Act.put, List.getElem_toArray, List.getElem_cons_zero, List.getElem_cons_succ, List.setIfInBounds_toArray, List.set_cons_zero, List.set_cons_succ]
        refine wpAnyH_done (by kernel_rfl) ?_ _
        go_wp2
        go_ret
        exact ⟨rfl, below_to HW8.out hHeld⟩
theorem filesSure_any (a : Option Addr) (l : List Nat) (n ca : Nat) (hn : Hid (n = l.length)) (hca : n ≤ ca) (hn7 : n ≤ 140737488351232) (b : Option Addr) (lq : List Nat) (m cb : Nat) (hm : Hid (m = lq.length)) (hcb : m ≤ cb) (hm7 : m ≤ 140737488351232) (keep : Int) (rn : Bool) (W : World) (HA : Hid (ByAt W a l)) (HBQ : Hid (ByAt W b lq)) :
    Calls Try.prog 4 #[.slice a n ca, .slice b m cb, .int .i64 keep, .bool rn] W fun e w' => e = .returned (.bool true) ∧ Below W.heap.size W w' :=
  filesSure_core a l n ca hn hca b lq m cb hm hcb keep rn hn7 hm7 W HA HBQ
end Go.Proofs.Ytcepffmhjhaelaa
