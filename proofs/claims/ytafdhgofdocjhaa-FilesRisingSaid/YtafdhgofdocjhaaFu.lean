/-
  Layer files: a file that is given its own name anew; Rename of a to a.
-/
import Derived.Test.YtafdhgofdocjhaaFt
set_option linter.unusedSimpArgs false
set_option linter.unusedVariables false
namespace Go.Proofs.Ytafdhgofdocjhaa
open Go.RowKit Go.WideShapes

theorem yieldsIf_row {P : Program} {ops : Array Oper} {S : World → Prop} {op : Oper} {a : Act} (hw : Region.wanted op (yielded ops a.tmps) = true) (ty : TypeId) (x : Operand) (ho : op.op = .load ty x)
    (g : Nat) (hx : a.eval x = .pointer (some ⟨g, 0, none⟩)) (t : TypeId) (cs : Array Value) (fr : Nat × Nat) (d : TypeDesc) (hS : ∀ w, S w → w.heap[g]? = some (.cells cs t fr))
    (hu : P.underlying ty = some d) (hd : (match d with | .struct _ | .array _ _ => true | _ => false) = true) (hi : (P.info? ty).map (·.size) = some cs.size) : YieldsIf P ops S op (.agg cs) a :=
  .inl ⟨hw, fun w hw' => by
    unfold execOp
    simp only [ho, hx, Instr.loadAt, Instr.sureAddr, Sem.run_bind, Sem.run_pure, Result.andThen_ok, run_loadVar_row w g t ty cs fr d (hS w hw') hu hd hi]⟩
theorem uFile : Try.prog.underlying 74 = some (.struct (Try.prog.fieldsOf 74)) := by kernel_rfl
theorem one_fl (A : Option Addr) (n cap : Nat) (du : Int) : ∀ u ∈ [Value.string { data := #[97] }, .slice A n cap, .int .i64 du], u.oneCell' = true := fun u hu => by
  simp only [List.mem_cons, List.not_mem_nil, or_false] at hu
  rcases hu with rfl | rfl | rfl <;> rfl
/-- The file is taken out of the row; its cells lie in a box. -/
structure SM (W : World) (g : Nat) (room : Int) (off : Bool) (armed ops : Int) (f fcap tb : Nat) (A : Option Addr) (cap : Nat) (l : List Nat) (du : Int) (w : World) : Prop where
  below : W.grownBy w (some g)
  st : w.heap[g]? = some (.cells (stC room (some ⟨f, 0, none⟩) 0 fcap off armed ops).toArray 68 (0, 0))
  ox : OwnX w W.heap.size (some ⟨f, 0, none⟩) 0 fcap []
  tbr : w.heap[tb]? = some (.cells #[.string { data := #[97] }, .slice A l.length cap, .int .i64 du] 74 (0, 0))
  own : OwnS w W.heap.size A l.length cap l
  fb : W.heap.size ≤ f
  ne : g ≠ f
  sg : A.map (·.block) ≠ some g
  sf : A.map (·.block) ≠ some f
  tg : tb ≠ g
  tf : tb ≠ f
section
variable {W : World} {g f fcap cap : Nat} {room armed ops du : Int} {off : Bool} {r : List Value} {A : Option Addr} {l : List Nat} {tb : Nat} {w w' : World}
theorem SM.g1 (h : SM W g room off armed ops f fcap tb A cap l du w) : w.cell? ⟨g, 1, none⟩ = some (.slice (some ⟨f, 0, none⟩) 0 fcap) := row_cells h.st 1 _ rfl
theorem ownx_kept {B : Nat} {F : Option Addr} {k c : Nat} {xs : List Value} (h : OwnX w B F k c xs) (hb : Below w.heap.size w w') : OwnX w' B F k c xs := by
  refine ⟨h.1, ?_⟩
  rcases h.2 with h1 | ⟨a, cap', cur, h1, hB, hrow, hrest⟩
  · exact .inl h1
  · exact .inr ⟨a, cap', cur, h1, hB, row_kept hrow hb, hrest⟩
theorem SM.next (h : SM W g room off armed ops f fcap tb A cap l du w) (hb : Below w.heap.size w w') : SM W g room off armed ops f fcap tb A cap l du w' :=
  ⟨gb_below h.below hb, row_kept h.st hb, ownx_kept h.ox hb, row_kept h.tbr hb, h.own.keep hb, h.fb, h.ne, h.sg, h.sf, h.tg, h.tf⟩
theorem sm_alloc (h : Hid (SM W g room off armed ops f fcap tb A cap l du w)) : Hid (SM W g room off armed ops f fcap tb A cap l du (w.alloc (.cells #[.string { data := #[97] }, .slice A l.length cap, .int .i64 du] 74))) ∧
    Hid (∀ (j : Nat) (u : Value), [Value.string { data := #[97] }, .slice A l.length cap, .int .i64 du][j]? = some u → (w.alloc (.cells #[.string { data := #[97] }, .slice A l.length cap, .int .i64 du] 74)).cell? ((⟨w.heap.size, 0, none⟩ : Addr).add j) = some u) :=
  ⟨Lib.hid (h.out.next ((Below.refl _ _).alloc (Nat.le_refl _) _)), Lib.hid fun j u hu => by rw [addr_add, Nat.zero_add, cell_of_row _ _ _ _ _ _ (heap_alloc_new' w _), ← hu]; simp⟩
/-- The row of the file is made again; the store does not yet know. -/
structure SG (W : World) (g : Nat) (room : Int) (off : Bool) (armed ops : Int) (f fcap f' fcap' tb : Nat) (r : List Value) (A : Option Addr) (cap : Nat) (l : List Nat) (du : Int) (w : World) : Prop where
  below : W.grownBy w (some g)
  st : w.heap[g]? = some (.cells (stC room (some ⟨f, 0, none⟩) 0 fcap off armed ops).toArray 68 (0, 0))
  fl : w.heap[f']? = some (.cells (flC A l.length cap du ++ r).toArray 74 (0, 0))
  fc : r.length + 3 = fcap' * 3 ∧ fcap' ≤ maxLen
  tbr : w.heap[tb]? = some (.cells #[.string { data := #[97] }, .slice A l.length cap, .int .i64 du] 74 (0, 0))
  own : OwnS w W.heap.size A l.length cap l
  fb : W.heap.size ≤ f'
  ne : g ≠ f'
  sg : A.map (·.block) ≠ some g
  sf : A.map (·.block) ≠ some f'
  tg : tb ≠ g
theorem SG.cg {f' fcap' : Nat} (h : SG W g room off armed ops f fcap f' fcap' tb r A cap l du w) : w.cell? ⟨g, 1, none⟩ = some (.slice (some ⟨f, 0, none⟩) 0 fcap) := row_cells h.st 1 _ rfl
theorem SG.kg {f' fcap' : Nat} (h : SG W g room off armed ops f fcap f' fcap' tb r A cap l du w) : w.frozen? ⟨g, 1, none⟩ = false := row_frozen h.st 1
theorem SG.done {f' fcap' : Nat} (h : SG W g room off armed ops f fcap f' fcap' tb r A cap l du w) : S1 W g room off armed ops f' fcap' r A cap l du (w.setCell ⟨g, 1, none⟩ (.slice (some ⟨f', 0, none⟩) 1 fcap')) :=
  ⟨gb_set h.below (.inl rfl) _ _, h.fb, h.ne, row_set h.st 1 _, row_far h.ne h.fl, h.fc, own_far h.own h.sg, h.sg, h.sf⟩
theorem SG.tbr' {f' fcap' : Nat} {v : Value} (h : SG W g room off armed ops f fcap f' fcap' tb r A cap l du w) : (w.setCell ⟨g, 1, none⟩ v).heap[tb]? = some (.cells #[.string { data := #[97] }, .slice A l.length cap, .int .i64 du] 74 (0, 0)) := row_far (Ne.symm h.tg) h.tbr
theorem again_file {F : Option Addr} {fcap' : Nat} (h : SM W g room off armed ops f fcap tb A cap l du w) (hox : OwnX w' W.heap.size F (0 + 1) fcap' ([] ++ [.string { data := #[97] }, .slice A l.length cap, .int .i64 du])) (hgr : w.grownBy w' (Option.map (·.block) (some (⟨f, 0, none⟩ : Addr)))) (hblk : F.map (·.block) = Option.map (·.block) (some (⟨f, 0, none⟩ : Addr)) ∨ F.map (·.block) = some w.heap.size) :
    ∃ f', F = some ⟨f', 0, none⟩ ∧ ∃ r, SG W g room off armed ops f fcap f' fcap' tb r A cap l du w' := by
  have hgl := (Array.getElem?_eq_some_iff.1 h.st).1
  have htl := (Array.getElem?_eq_some_iff.1 h.tbr).1
  rcases hox.2 with ⟨h1, h2⟩ | ⟨f', cap', cur, h1, hb, hrow, -, hc, hs, ht⟩
  · omega
  · cases h1
    have hAl : ∀ k, A.map (·.block) = some k → k < w.heap.size := fun k hk => by
      rcases h.own.1.2 with ⟨h1, _⟩ | ⟨a, cap', cur, h1, hb, hrow, -⟩
      · injection h1 with e1 e2 e3; rw [e1] at hk; cases hk
      · injection h1 with e1 e2 e3; rw [e1] at hk; simp at hk; subst hk; exact (Array.getElem?_eq_some_iff.1 hrow).1
    have hf : f' = f ∨ f' = w.heap.size := by
      rcases hblk with h | h
      · left; simpa using h
      · right; simpa using h
    have h3 : cur.toList.take 3 = flC A l.length cap du := by unfold flC; simpa using ht
    have hcur : cur = (flC A l.length cap du ++ cur.toList.drop 3).toArray := by rw [← h3, List.take_append_drop]
    refine ⟨f', rfl, cur.toList.drop 3, ⟨gb_grown h.below hgr (fun k hk => by simp at hk; have := h.fb; omega), (hgr.block g hgl (fun e => h.ne (by injection e))).trans h.st, ?_, ⟨?_, hc⟩, (hgr.block tb htl (fun e => h.tf (by injection e))).trans h.tbr, own_grown h.own hgr (fun k hk e => h.sf (by rw [hk]; exact e.symm)), hb, ?_, h.sg, ?_, h.tg⟩⟩
    · rw [← hcur]; exact hrow
    · have h4 := congrArg List.length h3
      rw [List.length_take, Array.length_toList] at h4
      have h5 : (flC A l.length cap du).length = 3 := rfl
      rw [List.length_drop, Array.length_toList]; omega
    · rcases hf with rfl | rfl
      · exact h.ne
      · omega
    · rcases hf with rfl | rfl
      · exact h.sf
      · intro e; have := hAl _ e; omega
theorem S1.ownX (h : S1 W g room off armed ops f fcap r A cap l du w) : OwnX w W.heap.size (some ⟨f, 0, none⟩) 1 fcap (flC A l.length cap du) := by
  have hc := h.fc
  have hl : (flC A l.length cap du).length = 3 := rfl
  refine ⟨rfl, .inr ⟨f, fcap, _, rfl, h.fbase, h.fl, by omega, hc.2, by simp [hl]; omega, ?_⟩⟩
  simp [flC]
/-- After the file is taken out and the store knows. -/
theorem sm_of (h : S1 W g room off armed ops f fcap r A cap l du w) (htb : w.heap[tb]? = some (.cells #[.string { data := #[97] }, .slice A l.length cap, .int .i64 du] 74 (0, 0))) (hbt : f ≠ tb ∧ g ≠ tb)
    (hox : OwnX w' W.heap.size (some ⟨f, 0, none⟩) 0 fcap []) (hg : w.grownBy w' (some f)) : SM W g room off armed ops f fcap tb A cap l du (w'.setCell ⟨g, 1, none⟩ (.slice (some ⟨f, 0, none⟩) 0 fcap)) := by
  have hgl := (Array.getElem?_eq_some_iff.1 h.st).1
  have htl := (Array.getElem?_eq_some_iff.1 htb).1
  have e1 := (hg.block g hgl (fun e => h.ne (by injection e))).trans h.st
  have e2 := (hg.block tb htl (fun e => hbt.1 (by injection e with e; exact e.symm))).trans htb
  obtain ⟨cs, R⟩ := hox.row
  refine ⟨gb_set (gb_grown h.below hg (fun k hk => by simp at hk; have := h.fbase; omega)) (.inl rfl) _ _, row_set e1 1 _, RowX.own (cs := cs) ⟨row_far h.ne R.row, R.hlen, R.hcap, R.first, R.base, R.xlen, R.le⟩, row_far hbt.2 e2, own_far (own_grown h.own hg (fun k hk e => h.sf (by rw [hk]; exact e.symm))) h.sg, h.fbase, h.ne, h.sg, h.sf, Ne.symm hbt.2, Ne.symm hbt.1⟩
set_option maxHeartbeats 4000000 in
theorem call_aa (w : World) (hs : Hid (S1 W g room off armed ops f fcap r A cap l du w)) :
    Calls Try.prog 44 #[.pointer (some ⟨g, 0, none⟩), .int .i64 0, .string { data := #[97] }] w fun e w' => e = .returned (.tuple #[]) ∧ ∃ f' fcap' r', S1 W g room off armed ops f' fcap' r' A cap l du w' := by
  have iFile : (Try.prog.info? 74).map (·.size) = some (#[Value.string { data := #[97] }, .slice A l.length cap, .int .i64 du] : Array Value).size := by kernel_rfl
  have IF := Lib.hid iFile
  clear iFile
  have g1 := hs.out.g1
  have f0 := hs.out.f0
  have f1 := hs.out.f1
  have f2 := hs.out.f2
  have hfc := hs.out.fc
  have HLT := Lib.hid hs.out.lt
  have hb := (Below.refl w.heap.size w).alloc (Nat.le_refl _) (.cells #[.string { data := #[97] }, .slice A l.length cap, .int .i64 du] 74)
  have HT : Hid ((w.alloc (.cells #[.string { data := #[97] }, .slice A l.length cap, .int .i64 du] 74)).heap[w.heap.size]? = some (.cells #[.string { data := #[97] }, .slice A l.length cap, .int .i64 du] 74 (0, 0))) := Lib.hid (heap_alloc_new' w _)
  have HS2 := Lib.hid (hs.out.next hb)
  have HD : Hid (Calls Try.prog 46 #[.slice (some ⟨f, 0, none⟩) 1 fcap, .int .i64 0, .int .i64 1] (w.alloc (.cells #[.string { data := #[97] }, .slice A l.length cap, .int .i64 du] 74)) fun e w' => e = .returned (.slice (some ⟨f, 0, none⟩) 0 fcap) ∧ OwnX w' W.heap.size (some ⟨f, 0, none⟩) 0 fcap [] ∧ (w.alloc (.cells #[.string { data := #[97] }, .slice A l.length cap, .int .i64 du] 74)).grownBy w' (some f)) :=
    Lib.hid (del_any W.heap.size f 1 0 fcap 0 0 (Lib.hid rfl) (by decide) (Lib.hid rfl) (by decide) (Lib.hid (by omega)) _ _ (Lib.hid HS2.out.ownX) (Lib.hid (one_fl A l.length cap du)))
  have HNE : Hid (f ≠ w.heap.size ∧ g ≠ w.heap.size) := Lib.hid (by have := HLT.out; omega)
  have g1' := HS2.out.g1
  clear hb hfc
  go_enter Try.func44, Try.ntmps44
  go_upto_region 3 with (go_at_call 46
                         refine HD.out.mono ?_
                         rintro e w3 ⟨rfl, hox, hg⟩
                         have hrow := (hg.block g (Array.getElem?_eq_some_iff.1 HS2.out.st).1 (fun e => HS2.out.ne (by injection e))).trans HS2.out.st
                         have cg3 := row_cells hrow 1 _ rfl
                         have kg3 := row_frozen hrow 1
                         have HSM := Lib.hid (sm_of HS2.out HT.out HNE.out hox hg)
                         clear hrow hox hg HD)
  generalize World.setCell w3 _ _ = w4 at *
  clear cg3 kg3 g1 g1' f0 f1 f2
  go_upto_region 6 with (go_at_call 36; refine (find_0 g (some ⟨f, 0, none⟩) fcap _ HSM.out.g1).mono ?_; rintro e w5 ⟨rfl, rfl⟩)
  have iFile := IF.out
  have HZ := Lib.hid (HSM.out.next (Below.refl _ _).drew)
  clear HSM HS2 HT IF
  generalize w.heap.size = tb at *
  refine wp_region_held_drew (S := fun w => w.heap[tb]? = some (.cells #[.string { data := #[97] }, .slice A l.length cap, .int .i64 du] 74 (0, 0))) (by kernel_rfl) HZ.out.tbr (fun hHeld => ?_)
  refine wpAnyH_take (i := 0) (v := .pointer (some ⟨g, 0, none⟩)) rfl (by kernel_rfl) (by kernel_rfl) (by kernel_rfl) (fun _ _ _ h => h) (Or.inl ⟨by rfl, fun _ _ => rfl⟩) hHeld ?_
  try dsimp only
  try simp only [Act.put, List.getElem_toArray, List.getElem_cons_zero, List.getElem_cons_succ, List.setIfInBounds_toArray, List.set_cons_zero, List.set_cons_succ]
  refine wpAnyH_take (i := 1) (v := .pointer (some ⟨g, 0, none⟩)) rfl (by kernel_rfl) (by kernel_rfl) (by kernel_rfl) (fun _ _ _ h => h) (Or.inl ⟨by rfl, fun _ _ => rfl⟩) hHeld ?_
  try dsimp only
  try simp only [Act.put, List.getElem_toArray, List.getElem_cons_zero, List.getElem_cons_succ, List.setIfInBounds_toArray, List.set_cons_zero, List.set_cons_succ]
  refine wpAnyH_take (i := 2) (v := .pointer (some ⟨g, 0, none⟩)) rfl (by kernel_rfl) (by kernel_rfl) (by kernel_rfl) (fun _ _ _ h => h) (Or.inl ⟨by rfl, fun w _ => by go_simp⟩) hHeld ?_
  try dsimp only
  try simp only [Act.put, List.getElem_toArray, List.getElem_cons_zero, List.getElem_cons_succ, List.setIfInBounds_toArray, List.set_cons_zero, List.set_cons_succ]
  refine wpAnyH_take (i := 3) (v := .pointer (some ⟨g, 1, none⟩)) rfl (by kernel_rfl) (by kernel_rfl) (by kernel_rfl) (fun _ _ _ h => h) (Or.inl ⟨by rfl, fun w _ => by go_simp⟩) hHeld ?_
  try dsimp only
  try simp only [Act.put, List.getElem_toArray, List.getElem_cons_zero, List.getElem_cons_succ, List.setIfInBounds_toArray, List.set_cons_zero, List.set_cons_succ]
  refine wpAnyH_take (i := 5) (v := .int .i64 0) rfl (by kernel_rfl) (by kernel_rfl) (by kernel_rfl) (fun _ _ _ h => h) (Or.inl ⟨by rfl, fun _ _ => rfl⟩) hHeld ?_
  try dsimp only
  try simp only [Act.put, List.getElem_toArray, List.getElem_cons_zero, List.getElem_cons_succ, List.setIfInBounds_toArray, List.set_cons_zero, List.set_cons_succ]
  refine wpAnyH_take (i := 6) (v := .agg #[.string { data := #[97] }, .slice A l.length cap, .int .i64 du]) rfl (by kernel_rfl) (by kernel_rfl) (by kernel_rfl) (fun _ _ _ h => h) (yieldsIf_row rfl 74 (.tmp 6) rfl tb rfl _ _ _ _ (fun w' hw' => hw') uFile rfl iFile) hHeld ?_
  try dsimp only
  try simp only [Act.put, List.getElem_toArray, List.getElem_cons_zero, List.getElem_cons_succ, List.setIfInBounds_toArray, List.set_cons_zero, List.set_cons_succ]
  refine wpAnyH_ready (rs := [4, 7]) (by kernel_rfl) (by simp) (AllReadyH.cons rfl (fun K hK => ?_) (AllReadyH.cons rfl (fun K hK => ?_) AllReadyH.nil))
  · skip
    have c1 := HZ.out.g1
    go_simp
    clear c1
    refine hK.out _ _ (HZ.out.tbr) (fun hHeld => ?_)
    clear hK K
    try dsimp only
    try simp only [Act.put, List.getElem_toArray, List.getElem_cons_zero, List.getElem_cons_succ, List.setIfInBounds_toArray, List.set_cons_zero, List.set_cons_succ]
    refine wpAnyH_ready (rs := [7]) (by kernel_rfl) (by simp) (AllReadyH.cons rfl (fun K hK => ?_) AllReadyH.nil)
    go_simp
    obtain ⟨HZ, HC⟩ := sm_alloc HZ
    refine hK.out _ _ (HZ.out.tbr) (fun hHeld => ?_)
    clear hK K
    try dsimp only
    try simp only [Act.put, List.getElem_toArray, List.getElem_cons_zero, List.getElem_cons_succ, List.setIfInBounds_toArray, List.set_cons_zero, List.set_cons_succ]
    refine wpAnyH_ready (rs := [8]) (by kernel_rfl) (by simp) (AllReadyH.cons rfl (fun K hK => ?_) AllReadyH.nil)
    go_simp
    refine (insert_end W.heap.size (some ⟨f, 0, none⟩) 0 fcap _ [] _ _ _ (by decide) _ (Lib.hid HZ.out.ox) (Lib.hid HZ.out.below.size) (Lib.hid (one_fl A l.length cap du)) (Lib.hid HC.out)).mono ?_
    rintro e v10 ⟨F', fcap', rfl, hox, hgr, hblk⟩
    obtain ⟨f', rfl, r', hst⟩ := again_file HZ.out hox hgr hblk
    have kg := hst.kg
    have cg := hst.cg
    have ht := hst.tbr
    have HST := Lib.hid hst
    clear hst hox hgr hblk HZ HC
    refine hK.out _ _ (ht) (fun hHeld => ?_)
    clear hK K
    try dsimp only
    try simp only [Act.put, List.getElem_toArray, List.getElem_cons_zero, List.getElem_cons_succ, List.setIfInBounds_toArray, List.set_cons_zero, List.set_cons_succ]
    refine wpAnyH_ready (rs := [9]) (by kernel_rfl) (by simp) (AllReadyH.cons rfl (fun K hK => ?_) AllReadyH.nil)
    go_simp
    refine hK.out _ _ (ht) (fun hHeld => ?_)
    clear hK K
    try dsimp only
    try simp only [Act.put, List.getElem_toArray, List.getElem_cons_zero, List.getElem_cons_succ, List.setIfInBounds_toArray, List.set_cons_zero, List.set_cons_succ]
    refine wpAnyH_ready (rs := [10]) (by kernel_rfl) (by simp) (AllReadyH.cons rfl (fun K hK => ?_) AllReadyH.nil)
    go_simp
    refine hK.out _ _ (ht) (fun hHeld => ?_)
    clear hK K
    try dsimp only
    try simp only [Act.put, List.getElem_toArray, List.getElem_cons_zero, List.getElem_cons_succ, List.setIfInBounds_toArray, List.set_cons_zero, List.set_cons_succ]
    refine wpAnyH_ready (rs := [11]) (by kernel_rfl) (by simp) (AllReadyH.cons rfl (fun K hK => ?_) AllReadyH.nil)
    go_simp
    have HS3 := Lib.hid HST.out.done
    refine hK.out _ _ (HST.out.tbr') (fun hHeld => ?_)
    clear hK K HST cg kg ht
    refine wpAnyH_done (by kernel_rfl) ?_ _
    go_wp2
    go_end0
    exact ⟨rfl, _, _, _, HS3.out⟩
  · skip
    go_simp
    obtain ⟨HZ, HC⟩ := sm_alloc HZ
    refine hK.out _ _ (HZ.out.tbr) (fun hHeld => ?_)
    clear hK K
    try dsimp only
    try simp only [Act.put, List.getElem_toArray, List.getElem_cons_zero, List.getElem_cons_succ, List.setIfInBounds_toArray, List.set_cons_zero, List.set_cons_succ]
    refine wpAnyH_ready (rs := [4]) (by kernel_rfl) (by simp) (AllReadyH.cons rfl (fun K hK => ?_) AllReadyH.nil)
    have c1 : (w4.alloc (.cells #[.string { data := #[97] }, .slice A l.length cap, .int .i64 du] 74)).cell? ⟨g, 1, none⟩ = some (.slice (some ⟨f, 0, none⟩) 0 fcap) := HZ.out.g1
    go_simp
    clear c1
    refine hK.out _ _ (HZ.out.tbr) (fun hHeld => ?_)
    clear hK K
    try dsimp only
    try simp only [Act.put, List.getElem_toArray, List.getElem_cons_zero, List.getElem_cons_succ, List.setIfInBounds_toArray, List.set_cons_zero, List.set_cons_succ]
    refine wpAnyH_ready (rs := [8]) (by kernel_rfl) (by simp) (AllReadyH.cons rfl (fun K hK => ?_) AllReadyH.nil)
    go_simp
    refine (insert_end W.heap.size (some ⟨f, 0, none⟩) 0 fcap _ [] _ _ _ (by decide) _ (Lib.hid HZ.out.ox) (Lib.hid HZ.out.below.size) (Lib.hid (one_fl A l.length cap du)) (Lib.hid HC.out)).mono ?_
    rintro e v10 ⟨F', fcap', rfl, hox, hgr, hblk⟩
    obtain ⟨f', rfl, r', hst⟩ := again_file HZ.out hox hgr hblk
    have kg := hst.kg
    have cg := hst.cg
    have ht := hst.tbr
    have HST := Lib.hid hst
    clear hst hox hgr hblk HZ HC
    refine hK.out _ _ (ht) (fun hHeld => ?_)
    clear hK K
    try dsimp only
    try simp only [Act.put, List.getElem_toArray, List.getElem_cons_zero, List.getElem_cons_succ, List.setIfInBounds_toArray, List.set_cons_zero, List.set_cons_succ]
    refine wpAnyH_ready (rs := [9]) (by kernel_rfl) (by simp) (AllReadyH.cons rfl (fun K hK => ?_) AllReadyH.nil)
    go_simp
    refine hK.out _ _ (ht) (fun hHeld => ?_)
    clear hK K
    try dsimp only
    try simp only [Act.put, List.getElem_toArray, List.getElem_cons_zero, List.getElem_cons_succ, List.setIfInBounds_toArray, List.set_cons_zero, List.set_cons_succ]
    refine wpAnyH_ready (rs := [10]) (by kernel_rfl) (by simp) (AllReadyH.cons rfl (fun K hK => ?_) AllReadyH.nil)
    go_simp
    refine hK.out _ _ (ht) (fun hHeld => ?_)
    clear hK K
    try dsimp only
    try simp only [Act.put, List.getElem_toArray, List.getElem_cons_zero, List.getElem_cons_succ, List.setIfInBounds_toArray, List.set_cons_zero, List.set_cons_succ]
    refine wpAnyH_ready (rs := [11]) (by kernel_rfl) (by simp) (AllReadyH.cons rfl (fun K hK => ?_) AllReadyH.nil)
    go_simp
    have HS3 := Lib.hid HST.out.done
    refine hK.out _ _ (HST.out.tbr') (fun hHeld => ?_)
    clear hK K HST cg kg ht
    refine wpAnyH_done (by kernel_rfl) ?_ _
    go_wp2
    go_end0
    exact ⟨rfl, _, _, _, HS3.out⟩
end
end Go.Proofs.Ytafdhgofdocjhaa
