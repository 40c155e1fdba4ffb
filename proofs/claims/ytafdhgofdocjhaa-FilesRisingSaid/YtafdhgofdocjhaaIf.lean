/-
  Layer files: a file of many is given another name; Rename that is done.
-/
import Derived.Test.YtafdhgofdocjhaaIc
import Derived.Test.YtafdhgofdocjhaaFu
set_option linter.unusedSimpArgs false
set_option linter.unusedVariables false
namespace Go.Proofs.Ytafdhgofdocjhaa
open Go.RowKit Go.WideShapes

theorem wp_store_x {o : Oper} {a : Act} {w : World} {K : Act → World → Prop} {Q : Exit → Act → World → Prop} (x y : Operand) (ho : o.op = .store 74 x y) (f of : Nat) (c0 c1 c2 : Value) (hx : a.eval x = .pointer (some ⟨f, of, none⟩)) (hy : a.eval y = .agg #[c0, c1, c2])
    (cs : List Value) (hg : w.heap[f]? = some (.cells cs.toArray 74 (0, 0))) (hfit : of + 3 ≤ cs.length) (h1 : ∀ u ∈ [c0, c1, c2], u.oneCell' = true)
    (h : ∀ w', w' = w.setRow f (cs.take of ++ [c0, c1, c2] ++ cs.drop (of + 3)).toArray → K (a.put o.dst undef) w') : o.wp Try.prog a w K Q := by
  obtain ⟨i0, hi, hz0, hz1, hz2⟩ := info_parts infoFile
  have hst := run_storeCells_at Try.prog f of 74 [c0, c1, c2] 0 cs.toArray w hg (by simpa using hfit) h1
  simp only [Nat.add_zero] at hst
  have hv : (storeVar 74 ⟨f, of, none⟩ (.agg #[c0, c1, c2])).run Try.prog w = .ok () (w.setRow f (cs.take of ++ [c0, c1, c2] ++ cs.drop (of + 3)).toArray) := by
    simp [storeVar, sizeOf, typeInfo, hi, hz1, Value.cells]
    simpa using hst
  unfold Oper.wp execOp
  simp only [ho, hx, hy, Instr.storeAt, Instr.sureAddr, Sem.run_bind, Sem.run_pure, Result.andThen_ok, hv]
  exact h _ rfl
theorem flat_put (xs : List Fil) (r : List Value) (k : Nat) (y : Fil) (h : k < xs.length) : (flat xs ++ r).take (k * 3) ++ flC3 y ++ (flat xs ++ r).drop (k * 3 + 3) = flat (xs.set k y) ++ r := by
  have h1 : (flat xs).length = xs.length * 3 := flat_len xs
  rw [List.take_append_of_le_length (by omega), List.drop_append_of_le_length (by omega), flat_take, show k * 3 + 3 = (k + 1) * 3 by omega, flat_drop]
  have e : xs.set k y = xs.take k ++ y :: xs.drop (k + 1) := by rw [List.set_eq_take_append_cons_drop, if_pos h]
  rw [e, flat_append, flat]
  simp only [List.append_assoc]
theorem one_fl3 (t : ByteArray) (A : Option Addr) (n cap : Nat) (du : Int) : ∀ u ∈ [Value.string t, .slice A n cap, .int .i64 du], u.oneCell' = true := fun u hu => by
  simp only [List.mem_cons, List.not_mem_nil, or_false] at hu
  rcases hu with rfl | rfl | rfl <;> rfl
section
variable {W : World} {g f fcap : Nat} {room armed ops : Int} {off : Bool} {r : List Value} {xs : List Fil} {w w' : World}
theorem Apart.next {y : Fil} (h : Apart W w g f xs y) (hb : Below w.heap.size w w') : Apart W w' g f xs y := ⟨h.own.keep hb, h.sg, h.sf, h.ap⟩
theorem gb_row2 {row : Array Value} (h : W.grownBy w (some g)) (hf : W.heap.size ≤ f) : W.grownBy (w.setRow f row) (some g) :=
  ⟨h.os, h.tape, h.output, by rw [srow_size]; exact h.size, fun k hk hn => (setRow_other w f k _ (by omega)).trans (h.block k hk hn)⟩
theorem SN.put (h : SN W g room off armed ops f fcap r xs w) (q : Nat) (x0 : Fil) (hx : xs[q]? = some x0) (y : Fil) (hy : Apart W w g f xs y) :
    SN W g room off armed ops f fcap r (xs.set q y) (w.setRow f ((flat xs ++ r).take (q * 3) ++ flC3 y ++ (flat xs ++ r).drop (q * 3 + 3)).toArray) := by
  have hq := (List.getElem?_eq_some_iff.1 hx).1
  have hgr : w.grownBy (w.setRow f ((flat xs ++ r).take (q * 3) ++ flC3 y ++ (flat xs ++ r).drop (q * 3 + 3)).toArray) (some f) := gb_setRow (gb_refl _ _)
  refine ⟨gb_row2 h.below h.fbase, h.fbase, h.ne, by rw [List.length_set, setRow_other _ _ _ _ h.ne]; exact h.st, ?_, by rw [List.length_set]; exact h.fc, fun j z hz => ?_, fun j z hz => ?_, fun j z hz => ?_, fun i j a z hij ha hz => ?_⟩
  · rw [flat_put xs r q y hq]; exact setRow_heap _ _ _ _ _ _ h.fl
  · rcases set_cases hz with ⟨rfl, rfl⟩ | ⟨hj, hu⟩
    · exact own_grown hy.own hgr (fun b hb e => hy.sf (by rw [hb]; exact e.symm))
    · exact own_grown (h.own j z hu) hgr (fun b hb e => h.sf j z hu (by rw [hb]; exact e.symm))
  · rcases set_cases hz with ⟨rfl, rfl⟩ | ⟨hj, hu⟩
    · exact hy.sg
    · exact h.sg j z hu
  · rcases set_cases hz with ⟨rfl, rfl⟩ | ⟨hj, hu⟩
    · exact hy.sf
    · exact h.sf j z hu
  · rcases set_cases ha with ⟨rfl, rfl⟩ | ⟨hi, hu⟩ <;> rcases set_cases hz with ⟨rfl, rfl⟩ | ⟨hj, hu'⟩
    · exact absurd rfl hij
    · exact hy.ap j z hu'
    · exact fun b hb e => hy.ap i a hu b e hb
    · exact h.ap i j a z hij hu hu'
/-- The file is taken out; its cells, with the new name, lie in a box. -/
structure CZ (W : World) (g : Nat) (room : Int) (off : Bool) (armed ops : Int) (f fcap : Nat) (r : List Value) (xs : List Fil) (tb : Nat) (y : Fil) (w : World) : Prop where
  sn : SN W g room off armed ops f fcap r xs w
  tbr : w.heap[tb]? = some (.cells #[.string y.name, .slice y.A y.l.length y.cap, .int .i64 (y.du : Nat)] 74 (0, 0))
  ap : Apart W w g f xs y
  tg : tb ≠ g
  tf : tb ≠ f
theorem CZ.next {tb : Nat} {y : Fil} (h : CZ W g room off armed ops f fcap r xs tb y w) (hb : Below w.heap.size w w') : CZ W g room off armed ops f fcap r xs tb y w' := ⟨h.sn.next hb, row_kept h.tbr hb, h.ap.next hb, h.tg, h.tf⟩
theorem cz_alloc {tb : Nat} {x : Fil} {t : ByteArray} (h : Hid (CZ W g room off armed ops f fcap r xs tb { x with name := t } w)) : Hid (CZ W g room off armed ops f fcap r xs tb { x with name := t } (w.alloc (.cells #[.string t, .slice x.A x.l.length x.cap, .int .i64 (x.du : Nat)] 74))) ∧
    Hid ((w.alloc (.cells #[.string t, .slice x.A x.l.length x.cap, .int .i64 (x.du : Nat)] 74)).heap[w.heap.size]? = some (.cells #[.string t, .slice x.A x.l.length x.cap, .int .i64 (x.du : Nat)] 74 (0, 0))) ∧ Hid (w.heap.size ≠ f) :=
  ⟨Lib.hid (h.out.next ((Below.refl _ _).alloc (Nat.le_refl _) _)), Lib.hid (boxed w), Lib.hid (by have := (Array.getElem?_eq_some_iff.1 h.out.sn.fl).1; omega)⟩
theorem cz_of {tb i : Nat} {x : Fil} {t : ByteArray} {r' : List Value} (h : SN W g room off armed ops f fcap r xs w) (hx : xs[i]? = some x) (htb : w.heap[tb]? = some (.cells #[.string t, .slice x.A x.l.length x.cap, .int .i64 (x.du : Nat)] 74 (0, 0))) (htf : tb ≠ f) (htg : tb ≠ g)
    (hg : w.grownBy w' (some f)) {v : Value} (hsn : SN W g room off armed ops f fcap r' (xs.eraseIdx i) (w'.setCell ⟨g, 1, none⟩ v)) : CZ W g room off armed ops f fcap r' (xs.eraseIdx i) tb { x with name := t } (w'.setCell ⟨g, 1, none⟩ v) := by
  have htl := (Array.getElem?_eq_some_iff.1 htb).1
  refine ⟨hsn, row_far (Ne.symm htg) ((hg.block tb htl (fun e => htf (by injection e with e; try exact e.symm))).trans htb), ⟨own_far (own_grown (h.own i x hx) hg (fun b hb e => h.sf i x hx (by rw [hb]; exact e.symm))) (h.sg i x hx), h.sg i x hx, h.sf i x hx, fun k z hz => ?_⟩, htg, htf⟩
  exact h.ap i _ x z (by split <;> omega) hx (erase_from hz)
/-- What the files are behind a new name. -/
def called (xs : List Fil) (i : Nat) (x : Fil) (t : ByteArray) (lo : Nat) : List Fil := if isAt (xs.eraseIdx i) t lo then (xs.eraseIdx i).set lo { x with name := t } else ins (xs.eraseIdx i) lo { x with name := t }
set_option maxHeartbeats 4000000 in
theorem call_any {i lo J : Nat} {x : Fil} {t : ByteArray} (hn : xs.length ≤ 1000) (hJl : Hid (J + 1 = xs.length)) (hx : Hid (xs[i]? = some x)) (hp : Hid (Place (xs.eraseIdx i) t lo)) (w : World) (hs : Hid (SN W g room off armed ops f fcap r xs w)) :
    Calls Try.prog 44 #[.pointer (some ⟨g, 0, none⟩), .int .i64 i, .string t] w fun e w' => e = .returned (.tuple #[]) ∧ ∃ f' fcap' r', SN W g room off armed ops f' fcap' r' (called xs i x t lo) w' := by
  have hil : i < xs.length := (List.getElem?_eq_some_iff.1 hx.out).1
  have IF : Hid ((Try.prog.info? 74).map (·.size) = some (#[.string t, .slice x.A x.l.length x.cap, .int .i64 (x.du : Nat)] : Array Value).size) := Lib.hid (by kernel_rfl)
  have g1 := hs.out.g1
  obtain ⟨-, f0, f1, f2⟩ := hs.out.files i x hx.out
  have hfc := hs.out.fc
  have hgl := (Array.getElem?_eq_some_iff.1 hs.out.st).1
  have hfl := (Array.getElem?_eq_some_iff.1 hs.out.fl).1
  have hb := (Below.refl w.heap.size w).alloc (Nat.le_refl _) (.cells #[.string t, .slice x.A x.l.length x.cap, .int .i64 (x.du : Nat)] 74)
  have HT : Hid ((w.alloc (.cells #[.string t, .slice x.A x.l.length x.cap, .int .i64 (x.du : Nat)] 74)).heap[w.heap.size]? = some (.cells #[.string t, .slice x.A x.l.length x.cap, .int .i64 (x.du : Nat)] 74 (0, 0))) := Lib.hid (heap_alloc_new' w _)
  have HS2 := Lib.hid (hs.out.next hb)
  have HD := Lib.hid (del_any W.heap.size f xs.length J fcap i (xs.length - (i + 1)) (Lib.hid (by have := hJl.out; omega)) hil (Lib.hid rfl) (by omega) (Lib.hid (by omega)) (flat xs) _ (Lib.hid HS2.out.ownX) (Lib.hid (flat_one xs)))
  have HNE : Hid (w.heap.size ≠ f ∧ w.heap.size ≠ g) := Lib.hid ⟨by omega, by omega⟩
  have g1' := HS2.out.g1
  have HJ : Hid ((xs.eraseIdx i).length = J) := Lib.hid (by rw [List.length_eraseIdx_of_lt hil]; have := hJl.out; omega)
  clear hb hfc hgl hfl
  go_enter Try.func44, Try.ntmps44
  go_upto_region 3 with (go_at_call 46
                         refine HD.out.mono ?_
                         rintro e w3 ⟨rfl, hox, hg⟩
                         have hrow := (hg.block g (Array.getElem?_eq_some_iff.1 HS2.out.st).1 (fun e => HS2.out.ne (by injection e with e; try exact e.symm))).trans HS2.out.st
                         have cg3 := row_cells hrow 1 _ rfl
                         have kg3 := row_frozen hrow 1
                         obtain ⟨r', hsn⟩ := HS2.out.erased i J hil hJl.out hox hg
                         have HCZ := Lib.hid (cz_of HS2.out hx.out HT.out HNE.out.1 HNE.out.2 hg hsn)
                         clear hrow hox hg HD hsn)
  generalize World.setCell w3 _ _ = w4 at *
  clear cg3 kg3 g1 g1' f0 f1 f2
  have HF := Lib.hid (find_any g f fcap (xs.eraseIdx i) t J (Lib.hid HJ.out.symm) (by have := hJl.out; omega) lo hp w4 (by have h := HCZ.out.sn.g1; rw [HJ.out] at h; exact h) (Lib.hid HCZ.out.sn.files))
  have HONE : Hid (∀ u ∈ [Value.string t, .slice x.A x.l.length x.cap, .int .i64 (x.du : Nat)], u.oneCell' = true) := Lib.hid (one_fl3 _ _ _ _ _)
  have hlo : lo ≤ (xs.eraseIdx i).length := hp.out.1
  have hlJ : lo ≤ J := by have := HJ.out; omega
  have hJ1 : J ≤ 1000 := by have := hJl.out; omega
  have HISX : Hid (isAt (xs.eraseIdx i) t lo = true → ∃ x0, (xs.eraseIdx i)[lo]? = some x0) := Lib.hid fun h => (isAt_yes h).imp fun _ h => h.1
  generalize w.heap.size = tb at *
  rcases hb : isAt (xs.eraseIdx i) t lo with _ | _
  · have HB := Lib.hid hb
    have HCA : Hid (called xs i x t lo = ins (xs.eraseIdx i) lo { x with name := t }) := Lib.hid (by unfold called; rw [hb]; rfl)
    rw [hb] at HF
    clear hb HS2 HT
    go_upto_region 6 with (go_at_call 36; refine HF.out.mono ?_; rintro e w5 ⟨rfl, hb⟩; have HZ5 := Lib.hid (HCZ.out.next hb); clear hb)
    have iFile := IF.out
    have HZ := Lib.hid (HZ5.out.next (Below.refl _ _).drew)
    clear HZ5 HCZ IF HF
    refine wp_region_held_drew (S := fun w => w.heap[tb]? = some (.cells #[.string t, .slice x.A x.l.length x.cap, .int .i64 (x.du : Nat)] 74 (0, 0))) (by kernel_rfl) HZ.out.tbr (fun hHeld => ?_)
    refine wpAnyH_take (i := 0) (v := .pointer (some ⟨g, 0, none⟩)) rfl (by kernel_rfl) (by kernel_rfl) (by kernel_rfl) (fun _ _ _ h => h) (Or.inl ⟨by rfl, fun _ _ => rfl⟩) hHeld ?_
    try dsimp only
    try simp only [Act.put, List.getElem_toArray, List.getElem_cons_zero, List.getElem_cons_succ, List.setIfInBounds_toArray, List.set_cons_zero, List.set_cons_succ]
    refine wpAnyH_take (i := 1) (v := .pointer (some ⟨g, 0, none⟩)) rfl (by kernel_rfl) (by kernel_rfl) (by kernel_rfl) (fun _ _ _ h => h) (Or.inl ⟨by rfl, fun _ _ => rfl⟩) hHeld ?_
    try dsimp only
    try simp only [Act.put, List.getElem_toArray, List.getElem_cons_zero, List.getElem_cons_succ, List.setIfInBounds_toArray, List.set_cons_zero, List.set_cons_succ]
    refine wpAnyH_take (i := 2) (v := .pointer (some ⟨g, 0, none⟩)) rfl (by kernel_rfl) (by kernel_rfl) (by kernel_rfl) (fun _ _ _ h => h) (Or.inl ⟨by rfl, fun w _ => by go_simp⟩) hHeld ?_
    try dsimp only
    try simp only [Act.put, List.getElem_toArray, List.getElem_cons_zero, List.getElem_cons_succ, List.setIfInBounds_toArray, List.set_cons_zero, List.set_cons_succ]
    refine wpAnyH_take (i := 3) (v := .pointer (some ⟨g, 1, none⟩)) rfl (by kernel_rfl) (by kernel_rfl) (by kernel_rfl) (fun _ _ _ h => h) (Or.inl ⟨by rfl, fun w _ => by go_simp⟩) hHeld ?_
    try dsimp only
    try simp only [Act.put, List.getElem_toArray, List.getElem_cons_zero, List.getElem_cons_succ, List.setIfInBounds_toArray, List.set_cons_zero, List.set_cons_succ]
    refine wpAnyH_take (i := 5) (v := .int .i64 (lo : Nat)) rfl (by kernel_rfl) (by kernel_rfl) (by kernel_rfl) (fun _ _ _ h => h) (Or.inl ⟨by rfl, fun _ _ => rfl⟩) hHeld ?_
    try dsimp only
    try simp only [Act.put, List.getElem_toArray, List.getElem_cons_zero, List.getElem_cons_succ, List.setIfInBounds_toArray, List.set_cons_zero, List.set_cons_succ]
    refine wpAnyH_take (i := 6) (v := .agg #[.string t, .slice x.A x.l.length x.cap, .int .i64 (x.du : Nat)]) rfl (by kernel_rfl) (by kernel_rfl) (by kernel_rfl) (fun _ _ _ h => h) (yieldsIf_row rfl 74 (.tmp 6) rfl tb rfl _ _ _ _ (fun w' hw' => hw') uFile rfl iFile) hHeld ?_
    try dsimp only
    try simp only [Act.put, List.getElem_toArray, List.getElem_cons_zero, List.getElem_cons_succ, List.setIfInBounds_toArray, List.set_cons_zero, List.set_cons_succ]
    refine wpAnyH_ready (rs := [4, 7]) (by kernel_rfl) (by simp) (AllReadyH.cons rfl (fun K hK => ?_) (AllReadyH.cons rfl (fun K hK => ?_) AllReadyH.nil))
    · skip
      have c1 := HZ.out.sn.g1
      rw [HJ.out] at c1
      go_simp
      clear c1
      refine hK.out _ _ (HZ.out.tbr) (fun hHeld => ?_)
      clear hK K
      try dsimp only
      try simp only [Act.put, List.getElem_toArray, List.getElem_cons_zero, List.getElem_cons_succ, List.setIfInBounds_toArray, List.set_cons_zero, List.set_cons_succ]
      refine wpAnyH_ready (rs := [7]) (by kernel_rfl) (by simp) (AllReadyH.cons rfl (fun K hK => ?_) AllReadyH.nil)
      go_simp
      obtain ⟨HZ, HC, HNE⟩ := cz_alloc HZ
      refine hK.out _ _ (HZ.out.tbr) (fun hHeld => ?_)
      clear hK K
      try dsimp only
      try simp only [Act.put, List.getElem_toArray, List.getElem_cons_zero, List.getElem_cons_succ, List.setIfInBounds_toArray, List.set_cons_zero, List.set_cons_succ]
      refine wpAnyH_ready (rs := [8]) (by kernel_rfl) (by simp) (AllReadyH.cons rfl (fun K hK => ?_) AllReadyH.nil)
      go_simp
      refine (insert_any W.heap.size f J fcap lo _ (flat (xs.eraseIdx i)) _ _ _ hlJ (by omega) _ (Lib.hid HZ.out.sn.below.size) (Lib.hid (by have h := HZ.out.sn.ownX; rw [HJ.out] at h; exact h)) (Lib.hid (flat_one _)) HONE HC HNE).mono ?_
      rintro e v10 ⟨F', fcap', rfl, hox, hgr, hblk⟩
      rw [← HJ.out] at hox
      obtain ⟨f', r2, rfl, hst⟩ := ins_file hlo HZ.out.sn HZ.out.ap hox hgr hblk
      have kg := hst.kg
      have cg := hst.cg
      rw [HJ.out] at cg
      have ht := (hgr.block tb (Array.getElem?_eq_some_iff.1 HZ.out.tbr).1 (fun e => HZ.out.tf (by injection e with e; try exact e.symm))).trans HZ.out.tbr
      have HST := Lib.hid hst
      have HTG := Lib.hid HZ.out.tg
      clear hst hox hgr hblk HZ HC
      refine hK.out _ _ (ht) (fun hHeld => ?_)
      clear hK K
      try dsimp only
      try simp only [Act.put, List.getElem_toArray, List.getElem_cons_zero, List.getElem_cons_succ, List.setIfInBounds_toArray, List.set_cons_zero, List.set_cons_succ]
      refine wpAnyH_ready (rs := [9]) (by kernel_rfl) (by simp) (AllReadyH.cons rfl (fun K hK => ?_) AllReadyH.nil)
      go_simp
      refine hK.out _ _ (ht) (fun hHeld => ?_)
      clear hK K
      try dsimp only
      try simp only [Act.put, List.getElem_toArray, List.getElem_cons_zero, List.getElem_cons_succ, List.setIfInBounds_toArray, List.set_cons_zero, List.set_cons_succ]
      refine wpAnyH_ready (rs := [10]) (by kernel_rfl) (by simp) (AllReadyH.cons rfl (fun K hK => ?_) AllReadyH.nil)
      go_simp
      refine hK.out _ _ (ht) (fun hHeld => ?_)
      clear hK K
      try dsimp only
      try simp only [Act.put, List.getElem_toArray, List.getElem_cons_zero, List.getElem_cons_succ, List.setIfInBounds_toArray, List.set_cons_zero, List.set_cons_succ]
      refine wpAnyH_ready (rs := [11]) (by kernel_rfl) (by simp) (AllReadyH.cons rfl (fun K hK => ?_) AllReadyH.nil)
      go_simp
      have HS3 := Lib.hid HST.out.done
      rw [ins_len, HJ.out] at HS3
      refine hK.out _ _ (row_far (Ne.symm HTG.out) ht) (fun hHeld => ?_)
      clear hK K HST cg kg ht
      refine wpAnyH_done (by kernel_rfl) ?_ _
      go_wp2
      go_end0
      have h9 := HS3.out
      rw [← HCA.out] at h9
      exact ⟨rfl, _, _, _, h9⟩
    · skip
      go_simp
      obtain ⟨HZ, HC, HNE⟩ := cz_alloc HZ
      refine hK.out _ _ (HZ.out.tbr) (fun hHeld => ?_)
      clear hK K
      try dsimp only
      try simp only [Act.put, List.getElem_toArray, List.getElem_cons_zero, List.getElem_cons_succ, List.setIfInBounds_toArray, List.set_cons_zero, List.set_cons_succ]
      refine wpAnyH_ready (rs := [4]) (by kernel_rfl) (by simp) (AllReadyH.cons rfl (fun K hK => ?_) AllReadyH.nil)
      have c1 : (w5.alloc (.cells #[.string t, .slice x.A x.l.length x.cap, .int .i64 (x.du : Nat)] 74)).cell? ⟨g, 1, none⟩ = some (.slice (some ⟨f, 0, none⟩) J fcap) := by have h := HZ.out.sn.g1; rw [HJ.out] at h; exact h
      go_simp
      clear c1
      refine hK.out _ _ (HZ.out.tbr) (fun hHeld => ?_)
      clear hK K
      try dsimp only
      try simp only [Act.put, List.getElem_toArray, List.getElem_cons_zero, List.getElem_cons_succ, List.setIfInBounds_toArray, List.set_cons_zero, List.set_cons_succ]
      refine wpAnyH_ready (rs := [8]) (by kernel_rfl) (by simp) (AllReadyH.cons rfl (fun K hK => ?_) AllReadyH.nil)
      go_simp
      refine (insert_any W.heap.size f J fcap lo _ (flat (xs.eraseIdx i)) _ _ _ hlJ (by omega) _ (Lib.hid HZ.out.sn.below.size) (Lib.hid (by have h := HZ.out.sn.ownX; rw [HJ.out] at h; exact h)) (Lib.hid (flat_one _)) HONE HC HNE).mono ?_
      rintro e v10 ⟨F', fcap', rfl, hox, hgr, hblk⟩
      rw [← HJ.out] at hox
      obtain ⟨f', r2, rfl, hst⟩ := ins_file hlo HZ.out.sn HZ.out.ap hox hgr hblk
      have kg := hst.kg
      have cg := hst.cg
      rw [HJ.out] at cg
      have ht := (hgr.block tb (Array.getElem?_eq_some_iff.1 HZ.out.tbr).1 (fun e => HZ.out.tf (by injection e with e; try exact e.symm))).trans HZ.out.tbr
      have HST := Lib.hid hst
      have HTG := Lib.hid HZ.out.tg
      clear hst hox hgr hblk HZ HC
      refine hK.out _ _ (ht) (fun hHeld => ?_)
      clear hK K
      try dsimp only
      try simp only [Act.put, List.getElem_toArray, List.getElem_cons_zero, List.getElem_cons_succ, List.setIfInBounds_toArray, List.set_cons_zero, List.set_cons_succ]
      refine wpAnyH_ready (rs := [9]) (by kernel_rfl) (by simp) (AllReadyH.cons rfl (fun K hK => ?_) AllReadyH.nil)
      go_simp
      refine hK.out _ _ (ht) (fun hHeld => ?_)
      clear hK K
      try dsimp only
      try simp only [Act.put, List.getElem_toArray, List.getElem_cons_zero, List.getElem_cons_succ, List.setIfInBounds_toArray, List.set_cons_zero, List.set_cons_succ]
      refine wpAnyH_ready (rs := [10]) (by kernel_rfl) (by simp) (AllReadyH.cons rfl (fun K hK => ?_) AllReadyH.nil)
      go_simp
      refine hK.out _ _ (ht) (fun hHeld => ?_)
      clear hK K
      try dsimp only
      try simp only [Act.put, List.getElem_toArray, List.getElem_cons_zero, List.getElem_cons_succ, List.setIfInBounds_toArray, List.set_cons_zero, List.set_cons_succ]
      refine wpAnyH_ready (rs := [11]) (by kernel_rfl) (by simp) (AllReadyH.cons rfl (fun K hK => ?_) AllReadyH.nil)
      go_simp
      have HS3 := Lib.hid HST.out.done
      rw [ins_len, HJ.out] at HS3
      refine hK.out _ _ (row_far (Ne.symm HTG.out) ht) (fun hHeld => ?_)
      clear hK K HST cg kg ht
      refine wpAnyH_done (by kernel_rfl) ?_ _
      go_wp2
      go_end0
      have h9 := HS3.out
      rw [← HCA.out] at h9
      exact ⟨rfl, _, _, _, h9⟩
  · obtain ⟨x0, hx0⟩ := HISX.out hb
    have HXL := Lib.hid hx0
    have HCA : Hid (called xs i x t lo = (xs.eraseIdx i).set lo { x with name := t }) := Lib.hid (by unfold called; rw [hb]; rfl)
    have hlt : lo < J := by have := (List.getElem?_eq_some_iff.1 hx0).1; have := HJ.out; omega
    rw [hb] at HF
    clear hb hx0 HS2 HT
    go_upto_region 5 with (go_at_call 36; refine HF.out.mono ?_; rintro e w5 ⟨rfl, hb⟩; have HZ5 := Lib.hid (HCZ.out.next hb); clear hb)
    have iFile := IF.out
    have HZ := Lib.hid (HZ5.out.next (Below.refl _ _).drew)
    have HFIT : Hid (∀ _ : Unit, lo * 3 + 3 ≤ (flat (xs.eraseIdx i) ++ r').length) := Lib.hid fun _ => by rw [List.length_append, flat_len, HJ.out]; omega
    have hg5 : w5.drew.cell? ⟨g, 1, none⟩ = some (.slice (some ⟨f, 0, none⟩) J fcap) := by have h := HZ.out.sn.g1; rw [HJ.out] at h; exact h
    clear HZ5 HCZ IF HF
    refine wp_region_held_drew (S := fun w => w.cell? ⟨g, 1, none⟩ = some (.slice (some ⟨f, 0, none⟩) J fcap) ∧ w.heap[tb]? = some (.cells #[.string t, .slice x.A x.l.length x.cap, .int .i64 (x.du : Nat)] 74 (0, 0))) (by kernel_rfl) ⟨hg5, HZ.out.tbr⟩ (fun hHeld => ?_)
    clear hg5
    refine wpAnyH_take (i := 0) (v := .pointer (some ⟨g, 0, none⟩)) rfl (by kernel_rfl) (by kernel_rfl) (by kernel_rfl) (fun _ _ _ h => h) (Or.inl ⟨by rfl, fun _ _ => rfl⟩) hHeld ?_
    try dsimp only
    try simp only [Act.put, List.getElem_toArray, List.getElem_cons_zero, List.getElem_cons_succ, List.setIfInBounds_toArray, List.set_cons_zero, List.set_cons_succ]
    refine wpAnyH_take (i := 1) (v := .pointer (some ⟨g, 0, none⟩)) rfl (by kernel_rfl) (by kernel_rfl) (by kernel_rfl) (fun _ _ _ h => h) (Or.inl ⟨by rfl, fun w _ => by go_simp⟩) hHeld ?_
    try dsimp only
    try simp only [Act.put, List.getElem_toArray, List.getElem_cons_zero, List.getElem_cons_succ, List.setIfInBounds_toArray, List.set_cons_zero, List.set_cons_succ]
    refine wpAnyH_take (i := 2) (v := .pointer (some ⟨g, 1, none⟩)) rfl (by kernel_rfl) (by kernel_rfl) (by kernel_rfl) (fun _ _ _ h => h) (Or.inl ⟨by rfl, fun w _ => by go_simp⟩) hHeld ?_
    try dsimp only
    try simp only [Act.put, List.getElem_toArray, List.getElem_cons_zero, List.getElem_cons_succ, List.setIfInBounds_toArray, List.set_cons_zero, List.set_cons_succ]
    refine wpAnyH_take (i := 3) (v := .slice (some ⟨f, 0, none⟩) J fcap) rfl (by kernel_rfl) (by kernel_rfl) (by kernel_rfl) (fun _ _ _ h => h) (yl rfl 66 (.tmp 37) rfl g 1 rfl _ lv_files (fun w hw => hw.1)) hHeld ?_
    try dsimp only
    try simp only [Act.put, List.getElem_toArray, List.getElem_cons_zero, List.getElem_cons_succ, List.setIfInBounds_toArray, List.set_cons_zero, List.set_cons_succ]
    refine wpAnyH_take (i := 4) (v := .int .i64 (lo : Nat)) rfl (by kernel_rfl) (by kernel_rfl) (by kernel_rfl) (fun _ _ _ h => h) (Or.inl ⟨by rfl, fun _ _ => rfl⟩) hHeld ?_
    try dsimp only
    try simp only [Act.put, List.getElem_toArray, List.getElem_cons_zero, List.getElem_cons_succ, List.setIfInBounds_toArray, List.set_cons_zero, List.set_cons_succ]
    refine wpAnyH_take (i := 5) (v := .agg #[.string t, .slice x.A x.l.length x.cap, .int .i64 (x.du : Nat)]) rfl (by kernel_rfl) (by kernel_rfl) (by kernel_rfl) (fun _ _ _ h => h) (yieldsIf_row rfl 74 (.tmp 6) rfl tb rfl _ _ _ _ (fun w' hw' => hw'.2) uFile rfl iFile) hHeld ?_
    try dsimp only
    try simp only [Act.put, List.getElem_toArray, List.getElem_cons_zero, List.getElem_cons_succ, List.setIfInBounds_toArray, List.set_cons_zero, List.set_cons_succ]
    refine wpAnyH_take (i := 6) (v := .pointer (some ⟨f, lo * 3, none⟩)) rfl (by kernel_rfl) (by kernel_rfl) (by kernel_rfl) (fun _ _ _ h => h) (Or.inl ⟨by rfl, fun w _ => by go_simp⟩) hHeld ?_
    try dsimp only
    try simp only [Act.put, List.getElem_toArray, List.getElem_cons_zero, List.getElem_cons_succ, List.setIfInBounds_toArray, List.set_cons_zero, List.set_cons_succ]
    refine wpAnyH_ready (rs := [7]) (by kernel_rfl) (by simp) (AllReadyH.cons rfl (fun K hK => ?_) AllReadyH.nil)
    rw [if_pos (by rfl)]
    refine wp_store_x (.tmp 41) (.tmp 40) rfl f (lo * 3) _ _ _ rfl rfl _ HZ.out.sn.fl (HFIT.out ()) (HONE.out) ?_
    intro w6 hw6
    have HS6 := Lib.hid (HZ.out.sn.put lo _ HXL.out _ HZ.out.ap)
    have HB6 : w6.heap[tb]? = some (.cells #[.string t, .slice x.A x.l.length x.cap, .int .i64 (x.du : Nat)] 74 (0, 0)) := by rw [hw6, setRow_other _ _ _ _ HZ.out.tf]; exact HZ.out.tbr
    replace HS6 : Hid (SN W g room off armed ops f fcap r' ((xs.eraseIdx i).set lo { x with name := t }) w6) := Lib.hid (by rw [hw6]; exact HS6.out)
    have hg6 := HS6.out.g1
    rw [List.length_set, HJ.out] at hg6
    clear hw6
    refine hK.out _ _ ⟨hg6, HB6⟩ (fun hHeld => ?_)
    clear hK K hg6 HB6
    refine wpAnyH_done (by kernel_rfl) ?_ _
    try dsimp only [Act.put]
    go_wp2
    have h9 := HS6.out
    rw [← HCA.out] at h9
    exact bodyPost_ret (v := .tuple #[]) (by simp [results, Try.results44, go_sem]) rfl ⟨rfl, f, fcap, r', h9⟩
end
end Go.Proofs.Ytafdhgofdocjhaa
