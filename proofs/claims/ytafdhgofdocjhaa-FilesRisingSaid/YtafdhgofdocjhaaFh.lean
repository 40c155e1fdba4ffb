/-
  Layer files: Append of a file that is not there, into a store without files.
-/
import Derived.Test.YtafdhgofdocjhaaFg
set_option linter.unusedSimpArgs false
set_option linter.unusedVariables false
namespace Go.Proofs.Ytafdhgofdocjhaa
open Go.RowKit Go.WideShapes

theorem own_nil (w : World) (B : Nat) : OwnX w B none 0 0 [] := w.ownsRow_nil B _ 3
theorem one3 : ∀ u ∈ [Value.string { data := #[97] }, .slice none 0 0, .int .i64 0], u.oneCell' = true := fun u hu => by
  simp only [List.mem_cons, List.not_mem_nil, or_false] at hu
  rcases hu with rfl | rfl | rfl <;> rfl
theorem new_cells (w : World) (t : TypeId) (j : Nat) (u : Value) (h : [Value.string { data := #[97] }, .slice none 0 0, .int .i64 0][j]? = some u) : (w.alloc (.cells #[.string { data := #[97] }, .slice none 0 0, .int .i64 0] t)).cell? ((⟨w.heap.size, 0, none⟩ : Addr).add j) = some u := by
  rw [addr_add, Nat.zero_add, cell_of_row _ _ _ _ _ _ (heap_alloc_new' w _), ← h]; simp
/-- The row of the first file is made; the store does not yet know. -/
structure SF (W : World) (g : Nat) (room : Int) (off : Bool) (armed ops : Int) (f cap : Nat) (r : List Value) (w : World) : Prop where
  z : S0 W g room off armed ops w
  fb : W.heap.size ≤ f
  ne : g ≠ f
  fl : w.heap[f]? = some (.cells (flC none 0 0 0 ++ r).toArray 74 (0, 0))
  fc : r.length + 3 = cap * 3 ∧ cap ≤ maxLen
theorem SF.cg {W : World} {g f cap : Nat} {room armed ops : Int} {off : Bool} {r : List Value} {w : World} (h : SF W g room off armed ops f cap r w) : w.cell? ⟨g, 1, none⟩ = some (.slice none 0 0) := h.z.g1
theorem SF.kg {W : World} {g f cap : Nat} {room armed ops : Int} {off : Bool} {r : List Value} {w : World} (h : SF W g room off armed ops f cap r w) : w.frozen? ⟨g, 1, none⟩ = false := h.z.gf 1
theorem SF.done {W : World} {g f cap : Nat} {room armed ops : Int} {off : Bool} {r : List Value} {w : World} (h : SF W g room off armed ops f cap r w) : S1 W g room off armed ops f cap r none 0 [] 0 (w.setCell ⟨g, 1, none⟩ (.slice (some ⟨f, 0, none⟩) 1 cap)) :=
  ⟨gb_set h.z.below (.inl rfl) _ _, h.fb, h.ne, row_set h.z.st 1 _, row_far h.ne h.fl, h.fc, OwnS.nil _ _, by simp, by simp⟩
theorem first_file {W : World} {g : Nat} {room armed ops : Int} {off : Bool} {w w' : World} {F : Option Addr} {cap : Nat} (hz : S0 W g room off armed ops w) (hox : OwnX w' W.heap.size F (0 + 1) cap ([] ++ [.string { data := #[97] }, .slice none 0 0, .int .i64 0])) (hgr : w.grownBy w' (Option.map (·.block) (none : Option Addr))) (hblk : F.map (·.block) = Option.map (·.block) (none : Option Addr) ∨ F.map (·.block) = some w.heap.size) :
    ∃ f, F = some ⟨f, 0, none⟩ ∧ ∃ r, SF W g room off armed ops f cap r w' := by
  have hgl := (Array.getElem?_eq_some_iff.1 hz.st).1
  rcases hox.2 with ⟨h1, h2⟩ | ⟨f, cap', cur, h1, hb, hrow, -, hc, hs, ht⟩
  · omega
  · cases h1
    have hf : f = w.heap.size := by
      rcases hblk with h | h
      · cases h
      · simpa using h
    refine ⟨f, rfl, cur.toList.drop 3, ⟨⟨gb_grown hz.below hgr (fun k hk => by cases hk), (hgr.block g hgl (fun e => by cases e)).trans hz.st⟩, hb, by omega, ?_, ?_, hc⟩⟩
    · rw [hrow]
      have e : cur = (flC none 0 0 0 ++ cur.toList.drop 3).toArray := by
        have h3 : cur.toList.take 3 = flC none 0 0 0 := by unfold flC; simpa using ht
        rw [← h3, List.take_append_drop]
      rw [← e]
    · have hlen : cur.toList.take 3 = flC none 0 0 0 := by unfold flC; simpa using ht
      have h3 := congrArg List.length hlen
      rw [List.length_take, Array.length_toList] at h3
      have : (flC none 0 0 0).length = 3 := rfl
      rw [List.length_drop, Array.length_toList]; omega
theorem ByAt.grown {w w' : World} {p : Option Addr} {m : List Nat} {row : Option Nat} (h : ByAt w p m) (hg : w.grownBy w' row) (hr : row = none) : ByAt w' p m := fun k x hx => by
  obtain ⟨h1, b, off, h2, h3, h4⟩ := h k x hx
  exact ⟨h1, b, off, h2, Nat.lt_of_lt_of_le h3 hg.size, hg.cell h4 (by rw [hr]; exact fun e => by cases e)⟩
theorem ByAt.put {W : World} {g f cap : Nat} {room armed ops : Int} {off : Bool} {r : List Value} {w : World} {p : Option Addr} {m : List Nat} {v : Value} (h : ByAt w p m) (hs : SF W g room off armed ops f cap r w) : ByAt (w.setCell ⟨g, 1, none⟩ v) p m := fun k x hx => by
  obtain ⟨h1, b, off, h2, h3, h4⟩ := h k x hx
  refine ⟨h1, b, off, h2, by rw [setCell_size]; exact h3, ?_⟩
  by_cases e : b = g
  · subst e
    rw [cell_of_row w b (off + k) _ _ _ hs.z.st] at h4
    exfalso
    rcases hj : off + k with _ | _ | _ | _ | _ | j
    all_goals (rw [hj] at h4; simp [stC] at h4)
  · rw [World.cell?_setCell_other _ _ _ _ (fun e' => e (congrArg Addr.block e').symm)]
    exact h4
theorem alloc_step {W : World} {g : Nat} {room armed ops : Int} {off : Bool} {w : World} {p : Option Addr} {m : List Nat} (hz : Hid (S0 W g room off armed ops w)) (hp : Hid (ByAt w p m)) :
    Hid (S0 W g room off armed ops (w.alloc (.cells #[.string { data := #[97] }, .slice none 0 0, .int .i64 0] 74))) ∧ Hid (ByAt (w.alloc (.cells #[.string { data := #[97] }, .slice none 0 0, .int .i64 0] 74)) p m) ∧
    Hid (∀ (j : Nat) (u : Value), [Value.string { data := #[97] }, .slice none 0 0, .int .i64 0][j]? = some u → (w.alloc (.cells #[.string { data := #[97] }, .slice none 0 0, .int .i64 0] 74)).cell? ((⟨w.heap.size, 0, none⟩ : Addr).add j) = some u) :=
  have hb := (Below.refl w.heap.size w).alloc (Nat.le_refl _) (.cells #[.string { data := #[97] }, .slice none 0 0, .int .i64 0] 74)
  ⟨Lib.hid (hz.out.next hb), Lib.hid (hp.out.keep hb), Lib.hid (new_cells w _)⟩
theorem start_file {W : World} {g f fcap : Nat} {room armed ops : Int} {off : Bool} {r : List Value} {w : World} (h : Hid (S1 W g room off armed ops f fcap r none 0 [] 0 w)) : ∃ A cap l, Hid (l = ([] : List Nat)) ∧ Hid (S1 W g room off armed ops f fcap r A cap l 0 w) := ⟨none, 0, [], rfl, h⟩

set_option maxHeartbeats 4000000 in
theorem append_0 {W : World} {g : Nat} {room armed ops : Int} {e armed' : Int} {off' : Bool} (w : World) (hs : Hid (S0 W g room false armed ops w)) (ho : Hid (Op1 armed e armed' off')) (h : Hid (0 ≤ ops ∧ ops < 1000000000)) (ha : Hid (armed < 1000000000))
    (p : Option Addr) (n c : Nat) (m : List Nat) (hm : Hid (n = m.length)) (hp : Hid (ByAt w p m)) (hroom : room ≤ 16777216) (hfit : (n : Int) ≤ room) :
    Calls Try.prog 13 #[.pointer (some ⟨g, 0, none⟩), .string { data := #[97] }, .slice p n c] w fun x w' => x = .returned (.int .i64 e) ∧ ∃ f fcap r A' cap', S1 W g room off' armed' (ops + 1) f fcap r A' cap' m 0 w' := by
  have H := Lib.hid (ref_new 9 hs.out.g2)
  have hb := (Below.refl w.heap.size w).alloc (Nat.le_refl _) (.cells #[.string { data := #[97] }] 9)
  have h' := hs.out.next hb
  have HP := Lib.hid (hp.out.keep hb)
  have HF := Lib.hid (find_0 g none 0 _ h'.g1)
  have HS := Lib.hid h'
  clear h' hb hs hp
  go_enter Try.func13, Try.ntmps13
  go_upto_region 5 with (first
    | (go_at_call 35; refine H.out.mono ?_; rintro e w' ⟨rfl, rfl⟩)
    | (go_at_call 36; refine HF.out.mono ?_; rintro e w1 ⟨rfl, rfl⟩))
  generalize World.alloc w _ = w1 at *
  have hwr : IntKind.i64.wrap room = room := IntWalk.i64_in _ (by omega)
  have hdec : decide (room < (n : Int)) = false := by simp; omega
  have HS2 := Lib.hid HS.out.drew
  have HP2 := Lib.hid (HP.out.keep (Below.refl _ _).drew)
  clear HS HP H HF
  refine wp_region_held_drew (S := S0 W g room false armed ops) (by kernel_rfl) HS2.out (fun hHeld => ?_)
  refine wpAnyH_take (i := 0) (v := .slice p n c) rfl (by kernel_rfl) (by kernel_rfl) (by kernel_rfl) (fun _ _ _ h => h) (Or.inl ⟨by rfl, fun _ _ => rfl⟩) hHeld ?_
  try dsimp only
  try simp only [Act.put, List.getElem_toArray, List.getElem_cons_zero, List.getElem_cons_succ, List.setIfInBounds_toArray, List.set_cons_zero, List.set_cons_succ]
  refine wpAnyH_take (i := 1) (v := .int .i64 (n : Nat)) rfl (by kernel_rfl) (by kernel_rfl) (by kernel_rfl) (fun _ _ _ h => h) (Or.inl ⟨by rfl, fun w _ => by go_simp⟩) hHeld ?_
  try dsimp only
  try simp only [Act.put, List.getElem_toArray, List.getElem_cons_zero, List.getElem_cons_succ, List.setIfInBounds_toArray, List.set_cons_zero, List.set_cons_succ]
  refine wpAnyH_take (i := 2) (v := .pointer (some ⟨g, 0, none⟩)) rfl (by kernel_rfl) (by kernel_rfl) (by kernel_rfl) (fun _ _ _ h => h) (Or.inl ⟨by rfl, fun _ _ => rfl⟩) hHeld ?_
  try dsimp only
  try simp only [Act.put, List.getElem_toArray, List.getElem_cons_zero, List.getElem_cons_succ, List.setIfInBounds_toArray, List.set_cons_zero, List.set_cons_succ]
  refine wpAnyH_take (i := 3) (v := .pointer (some ⟨g, 0, none⟩)) rfl (by kernel_rfl) (by kernel_rfl) (by kernel_rfl) (fun _ _ _ h => h) (Or.inl ⟨by rfl, fun w _ => by go_simp⟩) hHeld ?_
  try dsimp only
  try simp only [Act.put, List.getElem_toArray, List.getElem_cons_zero, List.getElem_cons_succ, List.setIfInBounds_toArray, List.set_cons_zero, List.set_cons_succ]
  refine wpAnyH_take (i := 4) (v := .pointer (some ⟨g, 0, none⟩)) rfl (by kernel_rfl) (by kernel_rfl) (by kernel_rfl) (fun _ _ _ h => h) (Or.inl ⟨by rfl, fun w _ => by go_simp⟩) hHeld ?_
  try dsimp only
  try simp only [Act.put, List.getElem_toArray, List.getElem_cons_zero, List.getElem_cons_succ, List.setIfInBounds_toArray, List.set_cons_zero, List.set_cons_succ]
  refine wpAnyH_take (i := 5) (v := .int .i64 room) rfl (by kernel_rfl) (by kernel_rfl) (by kernel_rfl) (fun _ _ _ h => h) (yl rfl 3 (.tmp 27) rfl g 0 rfl _ lv_int (fun w hw => hw.g0)) hHeld ?_
  try dsimp only
  try simp only [Act.put, List.getElem_toArray, List.getElem_cons_zero, List.getElem_cons_succ, List.setIfInBounds_toArray, List.set_cons_zero, List.set_cons_succ]
  refine wpAnyH_take (i := 6) (v := .pointer (some ⟨g, 0, none⟩)) rfl (by kernel_rfl) (by kernel_rfl) (by kernel_rfl) (fun _ _ _ h => h) (Or.inl ⟨by rfl, fun _ _ => rfl⟩) hHeld ?_
  try dsimp only
  try simp only [Act.put, List.getElem_toArray, List.getElem_cons_zero, List.getElem_cons_succ, List.setIfInBounds_toArray, List.set_cons_zero, List.set_cons_succ]
  refine wpAnyH_ready (rs := [7]) (by kernel_rfl) (by simp) (AllReadyH.cons rfl (fun K hK => ?_) AllReadyH.nil)
  go_simp
  refine (used_0 g none 0 _ hHeld.g1).mono ?_
  rintro e w2 ⟨rfl, rfl⟩
  refine hK.out _ _ hHeld (fun hHeld => ?_)
  clear hK K
  try dsimp only
  try simp only [Act.put, List.getElem_toArray, List.getElem_cons_zero, List.getElem_cons_succ, List.setIfInBounds_toArray, List.set_cons_zero, List.set_cons_succ]
  refine wpAnyH_ready (rs := [8]) (by kernel_rfl) (by simp) (AllReadyH.cons rfl (fun K hK => ?_) AllReadyH.nil)
  go_simp
  refine hK.out _ _ hHeld (fun hHeld => ?_)
  clear hK K
  try dsimp only
  try simp only [Act.put, List.getElem_toArray, List.getElem_cons_zero, List.getElem_cons_succ, List.setIfInBounds_toArray, List.set_cons_zero, List.set_cons_succ]
  refine wpAnyH_ready (rs := [9]) (by kernel_rfl) (by simp) (AllReadyH.cons rfl (fun K hK => ?_) AllReadyH.nil)
  go_simp
  refine hK.out _ _ hHeld (fun hHeld => ?_)
  clear hK K
  try dsimp only
  try simp only [Act.put, List.getElem_toArray, List.getElem_cons_zero, List.getElem_cons_succ, List.setIfInBounds_toArray, List.set_cons_zero, List.set_cons_succ]
  refine wpAnyH_ready (rs := [10]) (by kernel_rfl) (by simp) (AllReadyH.cons rfl (fun K hK => ?_) AllReadyH.nil)
  go_simp
  refine hK.out _ _ hHeld (fun hHeld => ?_)
  clear hK K
  try dsimp only
  try simp only [Act.put, List.getElem_toArray, List.getElem_cons_zero, List.getElem_cons_succ, List.setIfInBounds_toArray, List.set_cons_zero, List.set_cons_succ]
  refine wpAnyH_take (i := 11) (v := .bool false) rfl (by kernel_rfl) (by kernel_rfl) (by kernel_rfl) (fun _ _ _ h => h) (Or.inl ⟨by rfl, fun _ _ => rfl⟩) hHeld ?_
  try dsimp only
  try simp only [Act.put, List.getElem_toArray, List.getElem_cons_zero, List.getElem_cons_succ, List.setIfInBounds_toArray, List.set_cons_zero, List.set_cons_succ]
  refine wpAnyH_take (i := 12) (v := .bool true) rfl (by kernel_rfl) (by kernel_rfl) (by kernel_rfl) (fun _ _ _ h => h) (Or.inl ⟨by rfl, fun _ _ => rfl⟩) hHeld ?_
  try dsimp only
  try simp only [Act.put, List.getElem_toArray, List.getElem_cons_zero, List.getElem_cons_succ, List.setIfInBounds_toArray, List.set_cons_zero, List.set_cons_succ]
  refine wpAnyH_take (i := 13) (v := .bool true) rfl (by kernel_rfl) (by kernel_rfl) (by kernel_rfl) (fun _ _ _ h => h) (Or.inl ⟨by rfl, fun _ _ => rfl⟩) hHeld ?_
  try dsimp only
  try simp only [Act.put, List.getElem_toArray, List.getElem_cons_zero, List.getElem_cons_succ, List.setIfInBounds_toArray, List.set_cons_zero, List.set_cons_succ]
  refine wpAnyH_take (i := 14) (v := .pointer (some ⟨g, 0, none⟩)) rfl (by kernel_rfl) (by kernel_rfl) (by kernel_rfl) (fun _ _ _ h => h) (Or.inl ⟨by rfl, fun _ _ => rfl⟩) hHeld ?_
  try dsimp only
  try simp only [Act.put, List.getElem_toArray, List.getElem_cons_zero, List.getElem_cons_succ, List.setIfInBounds_toArray, List.set_cons_zero, List.set_cons_succ]
  refine wpAnyH_take (i := 15) (v := .pointer (some ⟨g, 0, none⟩)) rfl (by kernel_rfl) (by kernel_rfl) (by kernel_rfl) (fun _ _ _ h => h) (Or.inl ⟨by rfl, fun w _ => by go_simp⟩) hHeld ?_
  try dsimp only
  try simp only [Act.put, List.getElem_toArray, List.getElem_cons_zero, List.getElem_cons_succ, List.setIfInBounds_toArray, List.set_cons_zero, List.set_cons_succ]
  refine wpAnyH_take (i := 16) (v := .pointer (some ⟨g, 1, none⟩)) rfl (by kernel_rfl) (by kernel_rfl) (by kernel_rfl) (fun _ _ _ h => h) (Or.inl ⟨by rfl, fun w _ => by go_simp⟩) hHeld ?_
  try dsimp only
  try simp only [Act.put, List.getElem_toArray, List.getElem_cons_zero, List.getElem_cons_succ, List.setIfInBounds_toArray, List.set_cons_zero, List.set_cons_succ]
  refine wpAnyH_take (i := 17) (v := .slice none 0 0) rfl (by kernel_rfl) (by kernel_rfl) (by kernel_rfl) (fun _ _ _ h => h) (yl rfl 66 (.tmp 39) rfl g 1 rfl _ lv_files (fun w hw => hw.g1)) hHeld ?_
  try dsimp only
  try simp only [Act.put, List.getElem_toArray, List.getElem_cons_zero, List.getElem_cons_succ, List.setIfInBounds_toArray, List.set_cons_zero, List.set_cons_succ]
  refine wpAnyH_take (i := 18) (v := .int .i64 0) rfl (by kernel_rfl) (by kernel_rfl) (by kernel_rfl) (fun _ _ _ h => h) (Or.inl ⟨by rfl, fun w _ => by go_simp⟩) hHeld ?_
  try dsimp only
  try simp only [Act.put, List.getElem_toArray, List.getElem_cons_zero, List.getElem_cons_succ, List.setIfInBounds_toArray, List.set_cons_zero, List.set_cons_succ]
  refine wpAnyH_take (i := 19) (v := .bool false) rfl (by kernel_rfl) (by kernel_rfl) (by kernel_rfl) (fun _ _ _ h => h) (Or.inl ⟨by rfl, fun w _ => by go_simp⟩) hHeld ?_
  try dsimp only
  try simp only [Act.put, List.getElem_toArray, List.getElem_cons_zero, List.getElem_cons_succ, List.setIfInBounds_toArray, List.set_cons_zero, List.set_cons_succ]
  refine wpAnyH_take (i := 20) (v := .bool false) rfl (by kernel_rfl) (by kernel_rfl) (by kernel_rfl) (fun _ _ _ h => h) (Or.inl ⟨by rfl, fun _ _ => rfl⟩) hHeld ?_
  try dsimp only
  try simp only [Act.put, List.getElem_toArray, List.getElem_cons_zero, List.getElem_cons_succ, List.setIfInBounds_toArray, List.set_cons_zero, List.set_cons_succ]
  refine wpAnyH_take (i := 21) (v := .bool false) rfl (by kernel_rfl) (by kernel_rfl) (by kernel_rfl) (fun _ _ _ h => h) (Or.inl ⟨by rfl, fun _ _ => rfl⟩) hHeld ?_
  try dsimp only
  try simp only [Act.put, List.getElem_toArray, List.getElem_cons_zero, List.getElem_cons_succ, List.setIfInBounds_toArray, List.set_cons_zero, List.set_cons_succ]
  refine wpAnyH_done (by kernel_rfl) ?_ _
  clear hwr hdec
  have HZ := Lib.hid HS2.out.drew
  have HP := Lib.hid (HP2.out.keep (Below.refl _ _).drew)
  clear HS2 HP2 hHeld
  go_upto_region 8 with fail
  refine wp_region_held_drew (S := fun _ => True) (by kernel_rfl) trivial (fun hHeld => ?_)
  refine wpAnyH_take (i := 0) (v := .pointer (some ⟨g, 0, none⟩)) rfl (by kernel_rfl) (by kernel_rfl) (by kernel_rfl) (fun _ _ _ h => h) (Or.inl ⟨by rfl, fun _ _ => rfl⟩) hHeld ?_
  try dsimp only
  try simp only [Act.put, List.getElem_toArray, List.getElem_cons_zero, List.getElem_cons_succ, List.setIfInBounds_toArray, List.set_cons_zero, List.set_cons_succ]
  refine wpAnyH_take (i := 1) (v := .pointer (some ⟨g, 0, none⟩)) rfl (by kernel_rfl) (by kernel_rfl) (by kernel_rfl) (fun _ _ _ h => h) (Or.inl ⟨by rfl, fun _ _ => rfl⟩) hHeld ?_
  try dsimp only
  try simp only [Act.put, List.getElem_toArray, List.getElem_cons_zero, List.getElem_cons_succ, List.setIfInBounds_toArray, List.set_cons_zero, List.set_cons_succ]
  refine wpAnyH_take (i := 2) (v := .pointer (some ⟨g, 0, none⟩)) rfl (by kernel_rfl) (by kernel_rfl) (by kernel_rfl) (fun _ _ _ h => h) (Or.inl ⟨by rfl, fun w _ => by go_simp⟩) hHeld ?_
  try dsimp only
  try simp only [Act.put, List.getElem_toArray, List.getElem_cons_zero, List.getElem_cons_succ, List.setIfInBounds_toArray, List.set_cons_zero, List.set_cons_succ]
  refine wpAnyH_take (i := 3) (v := .pointer (some ⟨g, 1, none⟩)) rfl (by kernel_rfl) (by kernel_rfl) (by kernel_rfl) (fun _ _ _ h => h) (Or.inl ⟨by rfl, fun w _ => by go_simp⟩) hHeld ?_
  try dsimp only
  try simp only [Act.put, List.getElem_toArray, List.getElem_cons_zero, List.getElem_cons_succ, List.setIfInBounds_toArray, List.set_cons_zero, List.set_cons_succ]
  refine wpAnyH_take (i := 5) (v := .int .i64 0) rfl (by kernel_rfl) (by kernel_rfl) (by kernel_rfl) (fun _ _ _ h => h) (Or.inl ⟨by rfl, fun _ _ => rfl⟩) hHeld ?_
  try dsimp only
  try simp only [Act.put, List.getElem_toArray, List.getElem_cons_zero, List.getElem_cons_succ, List.setIfInBounds_toArray, List.set_cons_zero, List.set_cons_succ]
  refine wpAnyH_take (i := 6) (v := .string { data := #[97] }) rfl (by kernel_rfl) (by kernel_rfl) (by kernel_rfl) (fun _ _ _ h => h) (Or.inl ⟨by rfl, fun _ _ => rfl⟩) hHeld ?_
  try dsimp only
  try simp only [Act.put, List.getElem_toArray, List.getElem_cons_zero, List.getElem_cons_succ, List.setIfInBounds_toArray, List.set_cons_zero, List.set_cons_succ]
  refine wpAnyH_ready (rs := [4, 7]) (by kernel_rfl) (by simp) (AllReadyH.cons rfl (fun K hK => ?_) (AllReadyH.cons rfl (fun K hK => ?_) AllReadyH.nil))
  · skip
    have c1 := HZ.out.g1
    go_simp
    clear c1
    refine hK.out _ _ trivial (fun hHeld => ?_)
    clear hK K
    try dsimp only
    try simp only [Act.put, List.getElem_toArray, List.getElem_cons_zero, List.getElem_cons_succ, List.setIfInBounds_toArray, List.set_cons_zero, List.set_cons_succ]
    refine wpAnyH_ready (rs := [7]) (by kernel_rfl) (by simp) (AllReadyH.cons rfl (fun K hK => ?_) AllReadyH.nil)
    go_simp
    refine (ownName_any { data := #[97] } (by decide) _).mono ?_
    rintro e v7 ⟨rfl, hb⟩
    replace HZ := Lib.hid (HZ.out.next hb)
    replace HP := Lib.hid (HP.out.keep hb)
    clear hb
    refine hK.out _ _ trivial (fun hHeld => ?_)
    clear hK K
    try dsimp only
    try simp only [Act.put, List.getElem_toArray, List.getElem_cons_zero, List.getElem_cons_succ, List.setIfInBounds_toArray, List.set_cons_zero, List.set_cons_succ]
    refine wpAnyH_take (i := 8) (v := .agg #[.string { data := #[97] }, .slice none 0 0, .int .i64 0]) rfl (by kernel_rfl) (by kernel_rfl) (by kernel_rfl) (fun _ _ _ h => h) (Or.inl ⟨by rfl, fun w _ => by go_simp⟩) hHeld ?_
    try dsimp only
    try simp only [Act.put, List.getElem_toArray, List.getElem_cons_zero, List.getElem_cons_succ, List.setIfInBounds_toArray, List.set_cons_zero, List.set_cons_succ]
    refine wpAnyH_ready (rs := [9]) (by kernel_rfl) (by simp) (AllReadyH.cons rfl (fun K hK => ?_) AllReadyH.nil)
    go_simp
    obtain ⟨HZ, HP, HC⟩ := alloc_step HZ HP
    refine hK.out _ _ trivial (fun hHeld => ?_)
    clear hK K
    try dsimp only
    try simp only [Act.put, List.getElem_toArray, List.getElem_cons_zero, List.getElem_cons_succ, List.setIfInBounds_toArray, List.set_cons_zero, List.set_cons_succ]
    refine wpAnyH_ready (rs := [10]) (by kernel_rfl) (by simp) (AllReadyH.cons rfl (fun K hK => ?_) AllReadyH.nil)
    go_simp
    refine (insert_end W.heap.size none 0 0 _ [] _ _ _ (by decide) _ (Lib.hid (own_nil _ _)) (Lib.hid HZ.out.below.size) (Lib.hid one3) (Lib.hid HC.out)).mono ?_
    rintro e v10 ⟨F', fcap, rfl, hox, hgr, hblk⟩
    obtain ⟨f, rfl, r, hst⟩ := first_file HZ.out hox hgr hblk
    have kg := hst.kg
    have cg := hst.cg
    replace HP := Lib.hid (HP.out.grown hgr rfl)
    have HST := Lib.hid hst
    clear hst hox hgr hblk HZ HC
    refine hK.out _ _ trivial (fun hHeld => ?_)
    clear hK K
    try dsimp only
    try simp only [Act.put, List.getElem_toArray, List.getElem_cons_zero, List.getElem_cons_succ, List.setIfInBounds_toArray, List.set_cons_zero, List.set_cons_succ]
    refine wpAnyH_ready (rs := [11]) (by kernel_rfl) (by simp) (AllReadyH.cons rfl (fun K hK => ?_) AllReadyH.nil)
    go_simp
    refine hK.out _ _ trivial (fun hHeld => ?_)
    clear hK K
    try dsimp only
    try simp only [Act.put, List.getElem_toArray, List.getElem_cons_zero, List.getElem_cons_succ, List.setIfInBounds_toArray, List.set_cons_zero, List.set_cons_succ]
    refine wpAnyH_ready (rs := [12]) (by kernel_rfl) (by simp) (AllReadyH.cons rfl (fun K hK => ?_) AllReadyH.nil)
    go_simp
    refine hK.out _ _ trivial (fun hHeld => ?_)
    clear hK K
    try dsimp only
    try simp only [Act.put, List.getElem_toArray, List.getElem_cons_zero, List.getElem_cons_succ, List.setIfInBounds_toArray, List.set_cons_zero, List.set_cons_succ]
    refine wpAnyH_ready (rs := [13]) (by kernel_rfl) (by simp) (AllReadyH.cons rfl (fun K hK => ?_) AllReadyH.nil)
    go_simp
    have HS3 := Lib.hid HST.out.done
    have HP3 := Lib.hid (HP.out.put (v := .slice (some ⟨f, 0, none⟩) 1 fcap) HST.out)
    refine hK.out _ _ trivial (fun hHeld => ?_)
    clear hK K HST HP cg kg
    refine wpAnyH_done (by kernel_rfl) ?_ _
    have HS4 := Lib.hid (HS3.out.drew)
    have HP4 := Lib.hid (HP3.out.keep (Below.refl _ _).drew)
    clear HS3 HP3 hHeld
    obtain ⟨A, cap, l, hl0, HS4⟩ := start_file HS4
    have hl1 : l.length ≤ 100 := by rw [hl0.out]; decide
    go_upto_region 9 with fail
    refine wp_region_held_drew (S := fun w => w.cell? ⟨g, 1, none⟩ = some (.slice (some ⟨f, 0, none⟩) 1 fcap)) (by kernel_rfl) HS4.out.g1 (fun hHeld => ?_)
    refine wpAnyH_take (i := 0) (v := .pointer (some ⟨g, 0, none⟩)) rfl (by kernel_rfl) (by kernel_rfl) (by kernel_rfl) (fun _ _ _ h => h) (Or.inl ⟨by rfl, fun _ _ => rfl⟩) hHeld ?_
    try dsimp only
    try simp only [Act.put, List.getElem_toArray, List.getElem_cons_zero, List.getElem_cons_succ, List.setIfInBounds_toArray, List.set_cons_zero, List.set_cons_succ]
    refine wpAnyH_take (i := 1) (v := .pointer (some ⟨g, 0, none⟩)) rfl (by kernel_rfl) (by kernel_rfl) (by kernel_rfl) (fun _ _ _ h => h) (Or.inl ⟨by rfl, fun w _ => by go_simp⟩) hHeld ?_
    try dsimp only
    try simp only [Act.put, List.getElem_toArray, List.getElem_cons_zero, List.getElem_cons_succ, List.setIfInBounds_toArray, List.set_cons_zero, List.set_cons_succ]
    refine wpAnyH_take (i := 2) (v := .pointer (some ⟨g, 1, none⟩)) rfl (by kernel_rfl) (by kernel_rfl) (by kernel_rfl) (fun _ _ _ h => h) (Or.inl ⟨by rfl, fun w _ => by go_simp⟩) hHeld ?_
    try dsimp only
    try simp only [Act.put, List.getElem_toArray, List.getElem_cons_zero, List.getElem_cons_succ, List.setIfInBounds_toArray, List.set_cons_zero, List.set_cons_succ]
    refine wpAnyH_take (i := 3) (v := .slice (some ⟨f, 0, none⟩) 1 fcap) rfl (by kernel_rfl) (by kernel_rfl) (by kernel_rfl) (fun _ _ _ h => h) (yl rfl 66 (.tmp 62) rfl g 1 rfl _ lv_files (fun w hw => hw)) hHeld ?_
    try dsimp only
    try simp only [Act.put, List.getElem_toArray, List.getElem_cons_zero, List.getElem_cons_succ, List.setIfInBounds_toArray, List.set_cons_zero, List.set_cons_succ]
    refine wpAnyH_take (i := 4) (v := .int .i64 0) rfl (by kernel_rfl) (by kernel_rfl) (by kernel_rfl) (fun _ _ _ h => h) (Or.inl ⟨by rfl, fun _ _ => rfl⟩) hHeld ?_
    try dsimp only
    try simp only [Act.put, List.getElem_toArray, List.getElem_cons_zero, List.getElem_cons_succ, List.setIfInBounds_toArray, List.set_cons_zero, List.set_cons_succ]
    refine wpAnyH_take (i := 5) (v := .pointer (some ⟨g, 0, none⟩)) rfl (by kernel_rfl) (by kernel_rfl) (by kernel_rfl) (fun _ _ _ h => h) (Or.inl ⟨by rfl, fun _ _ => rfl⟩) hHeld ?_
    try dsimp only
    try simp only [Act.put, List.getElem_toArray, List.getElem_cons_zero, List.getElem_cons_succ, List.setIfInBounds_toArray, List.set_cons_zero, List.set_cons_succ]
    refine wpAnyH_take (i := 6) (v := .pointer (some ⟨g, 0, none⟩)) rfl (by kernel_rfl) (by kernel_rfl) (by kernel_rfl) (fun _ _ _ h => h) (Or.inl ⟨by rfl, fun w _ => by go_simp⟩) hHeld ?_
    try dsimp only
    try simp only [Act.put, List.getElem_toArray, List.getElem_cons_zero, List.getElem_cons_succ, List.setIfInBounds_toArray, List.set_cons_zero, List.set_cons_succ]
    refine wpAnyH_take (i := 7) (v := .pointer (some ⟨g, 1, none⟩)) rfl (by kernel_rfl) (by kernel_rfl) (by kernel_rfl) (fun _ _ _ h => h) (Or.inl ⟨by rfl, fun w _ => by go_simp⟩) hHeld ?_
    try dsimp only
    try simp only [Act.put, List.getElem_toArray, List.getElem_cons_zero, List.getElem_cons_succ, List.setIfInBounds_toArray, List.set_cons_zero, List.set_cons_succ]
    refine wpAnyH_take (i := 8) (v := .slice (some ⟨f, 0, none⟩) 1 fcap) rfl (by kernel_rfl) (by kernel_rfl) (by kernel_rfl) (fun _ _ _ h => h) (yl rfl 66 (.tmp 67) rfl g 1 rfl _ lv_files (fun w hw => hw)) hHeld ?_
    try dsimp only
    try simp only [Act.put, List.getElem_toArray, List.getElem_cons_zero, List.getElem_cons_succ, List.setIfInBounds_toArray, List.set_cons_zero, List.set_cons_succ]
    refine wpAnyH_take (i := 9) (v := .int .i64 0) rfl (by kernel_rfl) (by kernel_rfl) (by kernel_rfl) (fun _ _ _ h => h) (Or.inl ⟨by rfl, fun _ _ => rfl⟩) hHeld ?_
    try dsimp only
    try simp only [Act.put, List.getElem_toArray, List.getElem_cons_zero, List.getElem_cons_succ, List.setIfInBounds_toArray, List.set_cons_zero, List.set_cons_succ]
    refine wpAnyH_take (i := 10) (v := .pointer (some ⟨f, 0, none⟩)) rfl (by kernel_rfl) (by kernel_rfl) (by kernel_rfl) (fun _ _ _ h => h) (Or.inl ⟨by rfl, fun w _ => by go_simp⟩) hHeld ?_
    try dsimp only
    try simp only [Act.put, List.getElem_toArray, List.getElem_cons_zero, List.getElem_cons_succ, List.setIfInBounds_toArray, List.set_cons_zero, List.set_cons_succ]
    refine wpAnyH_take (i := 11) (v := .pointer (some ⟨f, 1, none⟩)) rfl (by kernel_rfl) (by kernel_rfl) (by kernel_rfl) (fun _ _ _ h => h) (Or.inl ⟨by rfl, fun w _ => by go_simp⟩) hHeld ?_
    try dsimp only
    try simp only [Act.put, List.getElem_toArray, List.getElem_cons_zero, List.getElem_cons_succ, List.setIfInBounds_toArray, List.set_cons_zero, List.set_cons_succ]
    refine wpAnyH_take (i := 13) (v := .slice p n c) rfl (by kernel_rfl) (by kernel_rfl) (by kernel_rfl) (fun _ _ _ h => h) (Or.inl ⟨by rfl, fun _ _ => rfl⟩) hHeld ?_
    try dsimp only
    try simp only [Act.put, List.getElem_toArray, List.getElem_cons_zero, List.getElem_cons_succ, List.setIfInBounds_toArray, List.set_cons_zero, List.set_cons_succ]
    have cf := HS4.out.f1
    refine wpAnyH_ready (rs := [12]) (by kernel_rfl) (by simp) (AllReadyH.cons rfl (fun K hK => ?_) AllReadyH.nil)
    go_simp
    refine hK.out _ _ hHeld (fun hHeld => ?_)
    clear hK K
    try dsimp only
    try simp only [Act.put, List.getElem_toArray, List.getElem_cons_zero, List.getElem_cons_succ, List.setIfInBounds_toArray, List.set_cons_zero, List.set_cons_succ]
    refine wpAnyH_ready (rs := [14]) (by kernel_rfl) (by simp) (AllReadyH.cons rfl (fun K hK => ?_) AllReadyH.nil)
    rw [if_pos (by rfl)]
    refine wp_append_by (.tmp 72) (.tmp 73) rfl W.heap.size A l.length cap l rfl HS4.out.own p n c m rfl hm.out HP4.out (by have := hm.out; omega) HS4.out.below.size ?_
    intro A' cap' w5 own hgr hblk
    have hg5 : w5.cell? ⟨g, 1, none⟩ = some (.slice (some ⟨f, 0, none⟩) 1 fcap) := hgr.cell hHeld (fun e => HS4.out.sg e.symm)
    have kf5 : w5.frozen? ⟨f, 1, none⟩ = false := row_frozen ((hgr.block f (Array.getElem?_eq_some_iff.1 HS4.out.fl).1 (fun e => HS4.out.sf e.symm)).trans HS4.out.fl) 1
    have cf5 : w5.cell? ⟨f, 1, none⟩ = some (.slice A l.length cap) := hgr.cell HS4.out.f1 (fun e => HS4.out.sf e.symm)
    have HO := Lib.hid own
    have HG := Lib.hid hgr
    have HK := Lib.hid hblk
    clear own hgr hblk
    refine hK.out _ _ hg5 (fun hHeld => ?_)
    clear hK K
    try dsimp only
    try simp only [Act.put, List.getElem_toArray, List.getElem_cons_zero, List.getElem_cons_succ, List.setIfInBounds_toArray, List.set_cons_zero, List.set_cons_succ]
    refine wpAnyH_ready (rs := [15]) (by kernel_rfl) (by simp) (AllReadyH.cons rfl (fun K hK => ?_) AllReadyH.nil)
    go_simp
    refine hK.out _ _ hHeld (fun hHeld => ?_)
    clear hK K
    try dsimp only
    try simp only [Act.put, List.getElem_toArray, List.getElem_cons_zero, List.getElem_cons_succ, List.setIfInBounds_toArray, List.set_cons_zero, List.set_cons_succ]
    refine wpAnyH_ready (rs := [16]) (by kernel_rfl) (by simp) (AllReadyH.cons rfl (fun K hK => ?_) AllReadyH.nil)
    go_simp
    refine hK.out _ _ hHeld (fun hHeld => ?_)
    clear hK K
    try dsimp only
    try simp only [Act.put, List.getElem_toArray, List.getElem_cons_zero, List.getElem_cons_succ, List.setIfInBounds_toArray, List.set_cons_zero, List.set_cons_succ]
    refine wpAnyH_ready (rs := [17]) (by kernel_rfl) (by simp) (AllReadyH.cons rfl (fun K hK => ?_) AllReadyH.nil)
    go_simp
    have hlen : l.length + n = (l ++ m).length := by rw [List.length_append, hm.out]
    have HS6 := Lib.hid (HS4.out.grown HG.out HK.out (l' := l ++ m) (by rw [← hlen]; exact HO.out))
    rw [← hlen] at HS6
    refine hK.out _ _ (HS6.out.g1) (fun hHeld => ?_)
    clear hK K hlen
    refine wpAnyH_done (by kernel_rfl) ?_ _
    go_wp2_with (go_at_call 39; refine (operate_1file _ HS6.out ho.out h.out ha.out).mono ?_; rintro x w7 ⟨rfl, h7⟩; have HS7 := Lib.hid h7; clear h7)
    go_ret
    have h7 := HS7.out
    rw [hl0.out, List.nil_append] at h7
    exact ⟨rfl, _, _, _, _, _, h7⟩
  · skip
    go_simp
    refine (ownName_any { data := #[97] } (by decide) _).mono ?_
    rintro e v7 ⟨rfl, hb⟩
    replace HZ := Lib.hid (HZ.out.next hb)
    replace HP := Lib.hid (HP.out.keep hb)
    clear hb
    refine hK.out _ _ trivial (fun hHeld => ?_)
    clear hK K
    try dsimp only
    try simp only [Act.put, List.getElem_toArray, List.getElem_cons_zero, List.getElem_cons_succ, List.setIfInBounds_toArray, List.set_cons_zero, List.set_cons_succ]
    refine wpAnyH_take (i := 8) (v := .agg #[.string { data := #[97] }, .slice none 0 0, .int .i64 0]) rfl (by kernel_rfl) (by kernel_rfl) (by kernel_rfl) (fun _ _ _ h => h) (Or.inl ⟨by rfl, fun w _ => by go_simp⟩) hHeld ?_
    try dsimp only
    try simp only [Act.put, List.getElem_toArray, List.getElem_cons_zero, List.getElem_cons_succ, List.setIfInBounds_toArray, List.set_cons_zero, List.set_cons_succ]
    refine wpAnyH_ready (rs := [4, 9]) (by kernel_rfl) (by simp) (AllReadyH.cons rfl (fun K hK => ?_) (AllReadyH.cons rfl (fun K hK => ?_) AllReadyH.nil))
    · skip
      have c1 := HZ.out.g1
      go_simp
      clear c1
      refine hK.out _ _ trivial (fun hHeld => ?_)
      clear hK K
      try dsimp only
      try simp only [Act.put, List.getElem_toArray, List.getElem_cons_zero, List.getElem_cons_succ, List.setIfInBounds_toArray, List.set_cons_zero, List.set_cons_succ]
      refine wpAnyH_ready (rs := [9]) (by kernel_rfl) (by simp) (AllReadyH.cons rfl (fun K hK => ?_) AllReadyH.nil)
      go_simp
      obtain ⟨HZ, HP, HC⟩ := alloc_step HZ HP
      refine hK.out _ _ trivial (fun hHeld => ?_)
      clear hK K
      try dsimp only
      try simp only [Act.put, List.getElem_toArray, List.getElem_cons_zero, List.getElem_cons_succ, List.setIfInBounds_toArray, List.set_cons_zero, List.set_cons_succ]
      refine wpAnyH_ready (rs := [10]) (by kernel_rfl) (by simp) (AllReadyH.cons rfl (fun K hK => ?_) AllReadyH.nil)
      go_simp
      refine (insert_end W.heap.size none 0 0 _ [] _ _ _ (by decide) _ (Lib.hid (own_nil _ _)) (Lib.hid HZ.out.below.size) (Lib.hid one3) (Lib.hid HC.out)).mono ?_
      rintro e v10 ⟨F', fcap, rfl, hox, hgr, hblk⟩
      obtain ⟨f, rfl, r, hst⟩ := first_file HZ.out hox hgr hblk
      have kg := hst.kg
      have cg := hst.cg
      replace HP := Lib.hid (HP.out.grown hgr rfl)
      have HST := Lib.hid hst
      clear hst hox hgr hblk HZ HC
      refine hK.out _ _ trivial (fun hHeld => ?_)
      clear hK K
      try dsimp only
      try simp only [Act.put, List.getElem_toArray, List.getElem_cons_zero, List.getElem_cons_succ, List.setIfInBounds_toArray, List.set_cons_zero, List.set_cons_succ]
      refine wpAnyH_ready (rs := [11]) (by kernel_rfl) (by simp) (AllReadyH.cons rfl (fun K hK => ?_) AllReadyH.nil)
      go_simp
      refine hK.out _ _ trivial (fun hHeld => ?_)
      clear hK K
      try dsimp only
      try simp only [Act.put, List.getElem_toArray, List.getElem_cons_zero, List.getElem_cons_succ, List.setIfInBounds_toArray, List.set_cons_zero, List.set_cons_succ]
      refine wpAnyH_ready (rs := [12]) (by kernel_rfl) (by simp) (AllReadyH.cons rfl (fun K hK => ?_) AllReadyH.nil)
      go_simp
      refine hK.out _ _ trivial (fun hHeld => ?_)
      clear hK K
      try dsimp only
      try simp only [Act.put, List.getElem_toArray, List.getElem_cons_zero, List.getElem_cons_succ, List.setIfInBounds_toArray, List.set_cons_zero, List.set_cons_succ]
      refine wpAnyH_ready (rs := [13]) (by kernel_rfl) (by simp) (AllReadyH.cons rfl (fun K hK => ?_) AllReadyH.nil)
      go_simp
      have HS3 := Lib.hid HST.out.done
      have HP3 := Lib.hid (HP.out.put (v := .slice (some ⟨f, 0, none⟩) 1 fcap) HST.out)
      refine hK.out _ _ trivial (fun hHeld => ?_)
      clear hK K HST HP cg kg
      refine wpAnyH_done (by kernel_rfl) ?_ _
      have HS4 := Lib.hid (HS3.out.drew)
      have HP4 := Lib.hid (HP3.out.keep (Below.refl _ _).drew)
      clear HS3 HP3 hHeld
      obtain ⟨A, cap, l, hl0, HS4⟩ := start_file HS4
      have hl1 : l.length ≤ 100 := by rw [hl0.out]; decide
      go_upto_region 9 with fail
      refine wp_region_held_drew (S := fun w => w.cell? ⟨g, 1, none⟩ = some (.slice (some ⟨f, 0, none⟩) 1 fcap)) (by kernel_rfl) HS4.out.g1 (fun hHeld => ?_)
      refine wpAnyH_take (i := 0) (v := .pointer (some ⟨g, 0, none⟩)) rfl (by kernel_rfl) (by kernel_rfl) (by kernel_rfl) (fun _ _ _ h => h) (Or.inl ⟨by rfl, fun _ _ => rfl⟩) hHeld ?_
      try dsimp only
      try simp only [Act.put, List.getElem_toArray, List.getElem_cons_zero, List.getElem_cons_succ, List.setIfInBounds_toArray, List.set_cons_zero, List.set_cons_succ]
      refine wpAnyH_take (i := 1) (v := .pointer (some ⟨g, 0, none⟩)) rfl (by kernel_rfl) (by kernel_rfl) (by kernel_rfl) (fun _ _ _ h => h) (Or.inl ⟨by rfl, fun w _ => by go_simp⟩) hHeld ?_
      try dsimp only
      try simp only [Act.put, List.getElem_toArray, List.getElem_cons_zero, List.getElem_cons_succ, List.setIfInBounds_toArray, List.set_cons_zero, List.set_cons_succ]
      refine wpAnyH_take (i := 2) (v := .pointer (some ⟨g, 1, none⟩)) rfl (by kernel_rfl) (by kernel_rfl) (by kernel_rfl) (fun _ _ _ h => h) (Or.inl ⟨by rfl, fun w _ => by go_simp⟩) hHeld ?_
      try dsimp only
      try simp only [Act.put, List.getElem_toArray, List.getElem_cons_zero, List.getElem_cons_succ, List.setIfInBounds_toArray, List.set_cons_zero, List.set_cons_succ]
      refine wpAnyH_take (i := 3) (v := .slice (some ⟨f, 0, none⟩) 1 fcap) rfl (by kernel_rfl) (by kernel_rfl) (by kernel_rfl) (fun _ _ _ h => h) (yl rfl 66 (.tmp 62) rfl g 1 rfl _ lv_files (fun w hw => hw)) hHeld ?_
      try dsimp only
      try simp only [Act.put, List.getElem_toArray, List.getElem_cons_zero, List.getElem_cons_succ, List.setIfInBounds_toArray, List.set_cons_zero, List.set_cons_succ]
      refine wpAnyH_take (i := 4) (v := .int .i64 0) rfl (by kernel_rfl) (by kernel_rfl) (by kernel_rfl) (fun _ _ _ h => h) (Or.inl ⟨by rfl, fun _ _ => rfl⟩) hHeld ?_
      try dsimp only
      try simp only [Act.put, List.getElem_toArray, List.getElem_cons_zero, List.getElem_cons_succ, List.setIfInBounds_toArray, List.set_cons_zero, List.set_cons_succ]
      refine wpAnyH_take (i := 5) (v := .pointer (some ⟨g, 0, none⟩)) rfl (by kernel_rfl) (by kernel_rfl) (by kernel_rfl) (fun _ _ _ h => h) (Or.inl ⟨by rfl, fun _ _ => rfl⟩) hHeld ?_
      try dsimp only
      try simp only [Act.put, List.getElem_toArray, List.getElem_cons_zero, List.getElem_cons_succ, List.setIfInBounds_toArray, List.set_cons_zero, List.set_cons_succ]
      refine wpAnyH_take (i := 6) (v := .pointer (some ⟨g, 0, none⟩)) rfl (by kernel_rfl) (by kernel_rfl) (by kernel_rfl) (fun _ _ _ h => h) (Or.inl ⟨by rfl, fun w _ => by go_simp⟩) hHeld ?_
      try dsimp only
      try simp only [Act.put, List.getElem_toArray, List.getElem_cons_zero, List.getElem_cons_succ, List.setIfInBounds_toArray, List.set_cons_zero, List.set_cons_succ]
      refine wpAnyH_take (i := 7) (v := .pointer (some ⟨g, 1, none⟩)) rfl (by kernel_rfl) (by kernel_rfl) (by kernel_rfl) (fun _ _ _ h => h) (Or.inl ⟨by rfl, fun w _ => by go_simp⟩) hHeld ?_
      try dsimp only
      try simp only [Act.put, List.getElem_toArray, List.getElem_cons_zero, List.getElem_cons_succ, List.setIfInBounds_toArray, List.set_cons_zero, List.set_cons_succ]
      refine wpAnyH_take (i := 8) (v := .slice (some ⟨f, 0, none⟩) 1 fcap) rfl (by kernel_rfl) (by kernel_rfl) (by kernel_rfl) (fun _ _ _ h => h) (yl rfl 66 (.tmp 67) rfl g 1 rfl _ lv_files (fun w hw => hw)) hHeld ?_
      try dsimp only
      try simp only [Act.put, List.getElem_toArray, List.getElem_cons_zero, List.getElem_cons_succ, List.setIfInBounds_toArray, List.set_cons_zero, List.set_cons_succ]
      refine wpAnyH_take (i := 9) (v := .int .i64 0) rfl (by kernel_rfl) (by kernel_rfl) (by kernel_rfl) (fun _ _ _ h => h) (Or.inl ⟨by rfl, fun _ _ => rfl⟩) hHeld ?_
      try dsimp only
      try simp only [Act.put, List.getElem_toArray, List.getElem_cons_zero, List.getElem_cons_succ, List.setIfInBounds_toArray, List.set_cons_zero, List.set_cons_succ]
      refine wpAnyH_take (i := 10) (v := .pointer (some ⟨f, 0, none⟩)) rfl (by kernel_rfl) (by kernel_rfl) (by kernel_rfl) (fun _ _ _ h => h) (Or.inl ⟨by rfl, fun w _ => by go_simp⟩) hHeld ?_
      try dsimp only
      try simp only [Act.put, List.getElem_toArray, List.getElem_cons_zero, List.getElem_cons_succ, List.setIfInBounds_toArray, List.set_cons_zero, List.set_cons_succ]
      refine wpAnyH_take (i := 11) (v := .pointer (some ⟨f, 1, none⟩)) rfl (by kernel_rfl) (by kernel_rfl) (by kernel_rfl) (fun _ _ _ h => h) (Or.inl ⟨by rfl, fun w _ => by go_simp⟩) hHeld ?_
      try dsimp only
      try simp only [Act.put, List.getElem_toArray, List.getElem_cons_zero, List.getElem_cons_succ, List.setIfInBounds_toArray, List.set_cons_zero, List.set_cons_succ]
      refine wpAnyH_take (i := 13) (v := .slice p n c) rfl (by kernel_rfl) (by kernel_rfl) (by kernel_rfl) (fun _ _ _ h => h) (Or.inl ⟨by rfl, fun _ _ => rfl⟩) hHeld ?_
      try dsimp only
      try simp only [Act.put, List.getElem_toArray, List.getElem_cons_zero, List.getElem_cons_succ, List.setIfInBounds_toArray, List.set_cons_zero, List.set_cons_succ]
      have cf := HS4.out.f1
      refine wpAnyH_ready (rs := [12]) (by kernel_rfl) (by simp) (AllReadyH.cons rfl (fun K hK => ?_) AllReadyH.nil)
      go_simp
      refine hK.out _ _ hHeld (fun hHeld => ?_)
      clear hK K
      try dsimp only
      try simp only [Act.put, List.getElem_toArray, List.getElem_cons_zero, List.getElem_cons_succ, List.setIfInBounds_toArray, List.set_cons_zero, List.set_cons_succ]
      refine wpAnyH_ready (rs := [14]) (by kernel_rfl) (by simp) (AllReadyH.cons rfl (fun K hK => ?_) AllReadyH.nil)
      rw [if_pos (by rfl)]
      refine wp_append_by (.tmp 72) (.tmp 73) rfl W.heap.size A l.length cap l rfl HS4.out.own p n c m rfl hm.out HP4.out (by have := hm.out; omega) HS4.out.below.size ?_
      intro A' cap' w5 own hgr hblk
      have hg5 : w5.cell? ⟨g, 1, none⟩ = some (.slice (some ⟨f, 0, none⟩) 1 fcap) := hgr.cell hHeld (fun e => HS4.out.sg e.symm)
      have kf5 : w5.frozen? ⟨f, 1, none⟩ = false := row_frozen ((hgr.block f (Array.getElem?_eq_some_iff.1 HS4.out.fl).1 (fun e => HS4.out.sf e.symm)).trans HS4.out.fl) 1
      have cf5 : w5.cell? ⟨f, 1, none⟩ = some (.slice A l.length cap) := hgr.cell HS4.out.f1 (fun e => HS4.out.sf e.symm)
      have HO := Lib.hid own
      have HG := Lib.hid hgr
      have HK := Lib.hid hblk
      clear own hgr hblk
      refine hK.out _ _ hg5 (fun hHeld => ?_)
      clear hK K
      try dsimp only
      try simp only [Act.put, List.getElem_toArray, List.getElem_cons_zero, List.getElem_cons_succ, List.setIfInBounds_toArray, List.set_cons_zero, List.set_cons_succ]
      refine wpAnyH_ready (rs := [15]) (by kernel_rfl) (by simp) (AllReadyH.cons rfl (fun K hK => ?_) AllReadyH.nil)
      go_simp
      refine hK.out _ _ hHeld (fun hHeld => ?_)
      clear hK K
      try dsimp only
      try simp only [Act.put, List.getElem_toArray, List.getElem_cons_zero, List.getElem_cons_succ, List.setIfInBounds_toArray, List.set_cons_zero, List.set_cons_succ]
      refine wpAnyH_ready (rs := [16]) (by kernel_rfl) (by simp) (AllReadyH.cons rfl (fun K hK => ?_) AllReadyH.nil)
      go_simp
      refine hK.out _ _ hHeld (fun hHeld => ?_)
      clear hK K
      try dsimp only
      try simp only [Act.put, List.getElem_toArray, List.getElem_cons_zero, List.getElem_cons_succ, List.setIfInBounds_toArray, List.set_cons_zero, List.set_cons_succ]
      refine wpAnyH_ready (rs := [17]) (by kernel_rfl) (by simp) (AllReadyH.cons rfl (fun K hK => ?_) AllReadyH.nil)
      go_simp
      have hlen : l.length + n = (l ++ m).length := by rw [List.length_append, hm.out]
      have HS6 := Lib.hid (HS4.out.grown HG.out HK.out (l' := l ++ m) (by rw [← hlen]; exact HO.out))
      rw [← hlen] at HS6
      refine hK.out _ _ (HS6.out.g1) (fun hHeld => ?_)
      clear hK K hlen
      refine wpAnyH_done (by kernel_rfl) ?_ _
      go_wp2_with (go_at_call 39; refine (operate_1file _ HS6.out ho.out h.out ha.out).mono ?_; rintro x w7 ⟨rfl, h7⟩; have HS7 := Lib.hid h7; clear h7)
      go_ret
      have h7 := HS7.out
      rw [hl0.out, List.nil_append] at h7
      exact ⟨rfl, _, _, _, _, _, h7⟩
    · skip
      go_simp
      obtain ⟨HZ, HP, HC⟩ := alloc_step HZ HP
      refine hK.out _ _ trivial (fun hHeld => ?_)
      clear hK K
      try dsimp only
      try simp only [Act.put, List.getElem_toArray, List.getElem_cons_zero, List.getElem_cons_succ, List.setIfInBounds_toArray, List.set_cons_zero, List.set_cons_succ]
      refine wpAnyH_ready (rs := [4]) (by kernel_rfl) (by simp) (AllReadyH.cons rfl (fun K hK => ?_) AllReadyH.nil)
      have c1 := HZ.out.g1
      go_simp
      clear c1
      refine hK.out _ _ trivial (fun hHeld => ?_)
      clear hK K
      try dsimp only
      try simp only [Act.put, List.getElem_toArray, List.getElem_cons_zero, List.getElem_cons_succ, List.setIfInBounds_toArray, List.set_cons_zero, List.set_cons_succ]
      refine wpAnyH_ready (rs := [10]) (by kernel_rfl) (by simp) (AllReadyH.cons rfl (fun K hK => ?_) AllReadyH.nil)
      go_simp
      refine (insert_end W.heap.size none 0 0 _ [] _ _ _ (by decide) _ (Lib.hid (own_nil _ _)) (Lib.hid HZ.out.below.size) (Lib.hid one3) (Lib.hid HC.out)).mono ?_
      rintro e v10 ⟨F', fcap, rfl, hox, hgr, hblk⟩
      obtain ⟨f, rfl, r, hst⟩ := first_file HZ.out hox hgr hblk
      have kg := hst.kg
      have cg := hst.cg
      replace HP := Lib.hid (HP.out.grown hgr rfl)
      have HST := Lib.hid hst
      clear hst hox hgr hblk HZ HC
      refine hK.out _ _ trivial (fun hHeld => ?_)
      clear hK K
      try dsimp only
      try simp only [Act.put, List.getElem_toArray, List.getElem_cons_zero, List.getElem_cons_succ, List.setIfInBounds_toArray, List.set_cons_zero, List.set_cons_succ]
      refine wpAnyH_ready (rs := [11]) (by kernel_rfl) (by simp) (AllReadyH.cons rfl (fun K hK => ?_) AllReadyH.nil)
      go_simp
      refine hK.out _ _ trivial (fun hHeld => ?_)
      clear hK K
      try dsimp only
      try simp only [Act.put, List.getElem_toArray, List.getElem_cons_zero, List.getElem_cons_succ, List.setIfInBounds_toArray, List.set_cons_zero, List.set_cons_succ]
      refine wpAnyH_ready (rs := [12]) (by kernel_rfl) (by simp) (AllReadyH.cons rfl (fun K hK => ?_) AllReadyH.nil)
      go_simp
      refine hK.out _ _ trivial (fun hHeld => ?_)
      clear hK K
      try dsimp only
      try simp only [Act.put, List.getElem_toArray, List.getElem_cons_zero, List.getElem_cons_succ, List.setIfInBounds_toArray, List.set_cons_zero, List.set_cons_succ]
      refine wpAnyH_ready (rs := [13]) (by kernel_rfl) (by simp) (AllReadyH.cons rfl (fun K hK => ?_) AllReadyH.nil)
      go_simp
      have HS3 := Lib.hid HST.out.done
      have HP3 := Lib.hid (HP.out.put (v := .slice (some ⟨f, 0, none⟩) 1 fcap) HST.out)
      refine hK.out _ _ trivial (fun hHeld => ?_)
      clear hK K HST HP cg kg
      refine wpAnyH_done (by kernel_rfl) ?_ _
      have HS4 := Lib.hid (HS3.out.drew)
      have HP4 := Lib.hid (HP3.out.keep (Below.refl _ _).drew)
      clear HS3 HP3 hHeld
      obtain ⟨A, cap, l, hl0, HS4⟩ := start_file HS4
      have hl1 : l.length ≤ 100 := by rw [hl0.out]; decide
      go_upto_region 9 with fail
      refine wp_region_held_drew (S := fun w => w.cell? ⟨g, 1, none⟩ = some (.slice (some ⟨f, 0, none⟩) 1 fcap)) (by kernel_rfl) HS4.out.g1 (fun hHeld => ?_)
      refine wpAnyH_take (i := 0) (v := .pointer (some ⟨g, 0, none⟩)) rfl (by kernel_rfl) (by kernel_rfl) (by kernel_rfl) (fun _ _ _ h => h) (Or.inl ⟨by rfl, fun _ _ => rfl⟩) hHeld ?_
      try dsimp only
      try simp only [Act.put, List.getElem_toArray, List.getElem_cons_zero, List.getElem_cons_succ, List.setIfInBounds_toArray, List.set_cons_zero, List.set_cons_succ]
      refine wpAnyH_take (i := 1) (v := .pointer (some ⟨g, 0, none⟩)) rfl (by kernel_rfl) (by kernel_rfl) (by kernel_rfl) (fun _ _ _ h => h) (Or.inl ⟨by rfl, fun w _ => by go_simp⟩) hHeld ?_
      try dsimp only
      try simp only [Act.put, List.getElem_toArray, List.getElem_cons_zero, List.getElem_cons_succ, List.setIfInBounds_toArray, List.set_cons_zero, List.set_cons_succ]
      refine wpAnyH_take (i := 2) (v := .pointer (some ⟨g, 1, none⟩)) rfl (by kernel_rfl) (by kernel_rfl) (by kernel_rfl) (fun _ _ _ h => h) (Or.inl ⟨by rfl, fun w _ => by go_simp⟩) hHeld ?_
      try dsimp only
      try simp only [Act.put, List.getElem_toArray, List.getElem_cons_zero, List.getElem_cons_succ, List.setIfInBounds_toArray, List.set_cons_zero, List.set_cons_succ]
      refine wpAnyH_take (i := 3) (v := .slice (some ⟨f, 0, none⟩) 1 fcap) rfl (by kernel_rfl) (by kernel_rfl) (by kernel_rfl) (fun _ _ _ h => h) (yl rfl 66 (.tmp 62) rfl g 1 rfl _ lv_files (fun w hw => hw)) hHeld ?_
      try dsimp only
      try simp only [Act.put, List.getElem_toArray, List.getElem_cons_zero, List.getElem_cons_succ, List.setIfInBounds_toArray, List.set_cons_zero, List.set_cons_succ]
      refine wpAnyH_take (i := 4) (v := .int .i64 0) rfl (by kernel_rfl) (by kernel_rfl) (by kernel_rfl) (fun _ _ _ h => h) (Or.inl ⟨by rfl, fun _ _ => rfl⟩) hHeld ?_
      try dsimp only
      try simp only [Act.put, List.getElem_toArray, List.getElem_cons_zero, List.getElem_cons_succ, List.setIfInBounds_toArray, List.set_cons_zero, List.set_cons_succ]
      refine wpAnyH_take (i := 5) (v := .pointer (some ⟨g, 0, none⟩)) rfl (by kernel_rfl) (by kernel_rfl) (by kernel_rfl) (fun _ _ _ h => h) (Or.inl ⟨by rfl, fun _ _ => rfl⟩) hHeld ?_
      try dsimp only
      try simp only [Act.put, List.getElem_toArray, List.getElem_cons_zero, List.getElem_cons_succ, List.setIfInBounds_toArray, List.set_cons_zero, List.set_cons_succ]
      refine wpAnyH_take (i := 6) (v := .pointer (some ⟨g, 0, none⟩)) rfl (by kernel_rfl) (by kernel_rfl) (by kernel_rfl) (fun _ _ _ h => h) (Or.inl ⟨by rfl, fun w _ => by go_simp⟩) hHeld ?_
      try dsimp only
      try simp only [Act.put, List.getElem_toArray, List.getElem_cons_zero, List.getElem_cons_succ, List.setIfInBounds_toArray, List.set_cons_zero, List.set_cons_succ]
      refine wpAnyH_take (i := 7) (v := .pointer (some ⟨g, 1, none⟩)) rfl (by kernel_rfl) (by kernel_rfl) (by kernel_rfl) (fun _ _ _ h => h) (Or.inl ⟨by rfl, fun w _ => by go_simp⟩) hHeld ?_
      try dsimp only
      try simp only [Act.put, List.getElem_toArray, List.getElem_cons_zero, List.getElem_cons_succ, List.setIfInBounds_toArray, List.set_cons_zero, List.set_cons_succ]
      refine wpAnyH_take (i := 8) (v := .slice (some ⟨f, 0, none⟩) 1 fcap) rfl (by kernel_rfl) (by kernel_rfl) (by kernel_rfl) (fun _ _ _ h => h) (yl rfl 66 (.tmp 67) rfl g 1 rfl _ lv_files (fun w hw => hw)) hHeld ?_
      try dsimp only
      try simp only [Act.put, List.getElem_toArray, List.getElem_cons_zero, List.getElem_cons_succ, List.setIfInBounds_toArray, List.set_cons_zero, List.set_cons_succ]
      refine wpAnyH_take (i := 9) (v := .int .i64 0) rfl (by kernel_rfl) (by kernel_rfl) (by kernel_rfl) (fun _ _ _ h => h) (Or.inl ⟨by rfl, fun _ _ => rfl⟩) hHeld ?_
      try dsimp only
      try simp only [Act.put, List.getElem_toArray, List.getElem_cons_zero, List.getElem_cons_succ, List.setIfInBounds_toArray, List.set_cons_zero, List.set_cons_succ]
      refine wpAnyH_take (i := 10) (v := .pointer (some ⟨f, 0, none⟩)) rfl (by kernel_rfl) (by kernel_rfl) (by kernel_rfl) (fun _ _ _ h => h) (Or.inl ⟨by rfl, fun w _ => by go_simp⟩) hHeld ?_
      try dsimp only
      try simp only [Act.put, List.getElem_toArray, List.getElem_cons_zero, List.getElem_cons_succ, List.setIfInBounds_toArray, List.set_cons_zero, List.set_cons_succ]
      refine wpAnyH_take (i := 11) (v := .pointer (some ⟨f, 1, none⟩)) rfl (by kernel_rfl) (by kernel_rfl) (by kernel_rfl) (fun _ _ _ h => h) (Or.inl ⟨by rfl, fun w _ => by go_simp⟩) hHeld ?_
      try dsimp only
      try simp only [Act.put, List.getElem_toArray, List.getElem_cons_zero, List.getElem_cons_succ, List.setIfInBounds_toArray, List.set_cons_zero, List.set_cons_succ]
      refine wpAnyH_take (i := 13) (v := .slice p n c) rfl (by kernel_rfl) (by kernel_rfl) (by kernel_rfl) (fun _ _ _ h => h) (Or.inl ⟨by rfl, fun _ _ => rfl⟩) hHeld ?_
      try dsimp only
      try simp only [Act.put, List.getElem_toArray, List.getElem_cons_zero, List.getElem_cons_succ, List.setIfInBounds_toArray, List.set_cons_zero, List.set_cons_succ]
      have cf := HS4.out.f1
      refine wpAnyH_ready (rs := [12]) (by kernel_rfl) (by simp) (AllReadyH.cons rfl (fun K hK => ?_) AllReadyH.nil)
      go_simp
      refine hK.out _ _ hHeld (fun hHeld => ?_)
      clear hK K
      try dsimp only
      try simp only [Act.put, List.getElem_toArray, List.getElem_cons_zero, List.getElem_cons_succ, List.setIfInBounds_toArray, List.set_cons_zero, List.set_cons_succ]
      refine wpAnyH_ready (rs := [14]) (by kernel_rfl) (by simp) (AllReadyH.cons rfl (fun K hK => ?_) AllReadyH.nil)
      rw [if_pos (by rfl)]
      refine wp_append_by (.tmp 72) (.tmp 73) rfl W.heap.size A l.length cap l rfl HS4.out.own p n c m rfl hm.out HP4.out (by have := hm.out; omega) HS4.out.below.size ?_
      intro A' cap' w5 own hgr hblk
      have hg5 : w5.cell? ⟨g, 1, none⟩ = some (.slice (some ⟨f, 0, none⟩) 1 fcap) := hgr.cell hHeld (fun e => HS4.out.sg e.symm)
      have kf5 : w5.frozen? ⟨f, 1, none⟩ = false := row_frozen ((hgr.block f (Array.getElem?_eq_some_iff.1 HS4.out.fl).1 (fun e => HS4.out.sf e.symm)).trans HS4.out.fl) 1
      have cf5 : w5.cell? ⟨f, 1, none⟩ = some (.slice A l.length cap) := hgr.cell HS4.out.f1 (fun e => HS4.out.sf e.symm)
      have HO := Lib.hid own
      have HG := Lib.hid hgr
      have HK := Lib.hid hblk
      clear own hgr hblk
      refine hK.out _ _ hg5 (fun hHeld => ?_)
      clear hK K
      try dsimp only
      try simp only [Act.put, List.getElem_toArray, List.getElem_cons_zero, List.getElem_cons_succ, List.setIfInBounds_toArray, List.set_cons_zero, List.set_cons_succ]
      refine wpAnyH_ready (rs := [15]) (by kernel_rfl) (by simp) (AllReadyH.cons rfl (fun K hK => ?_) AllReadyH.nil)
      go_simp
      refine hK.out _ _ hHeld (fun hHeld => ?_)
      clear hK K
      try dsimp only
      try simp only [Act.put, List.getElem_toArray, List.getElem_cons_zero, List.getElem_cons_succ, List.setIfInBounds_toArray, List.set_cons_zero, List.set_cons_succ]
      refine wpAnyH_ready (rs := [16]) (by kernel_rfl) (by simp) (AllReadyH.cons rfl (fun K hK => ?_) AllReadyH.nil)
      go_simp
      refine hK.out _ _ hHeld (fun hHeld => ?_)
      clear hK K
      try dsimp only
      try simp only [Act.put, List.getElem_toArray, List.getElem_cons_zero, List.getElem_cons_succ, List.setIfInBounds_toArray, List.set_cons_zero, List.set_cons_succ]
      refine wpAnyH_ready (rs := [17]) (by kernel_rfl) (by simp) (AllReadyH.cons rfl (fun K hK => ?_) AllReadyH.nil)
      go_simp
      have hlen : l.length + n = (l ++ m).length := by rw [List.length_append, hm.out]
      have HS6 := Lib.hid (HS4.out.grown HG.out HK.out (l' := l ++ m) (by rw [← hlen]; exact HO.out))
      rw [← hlen] at HS6
      refine hK.out _ _ (HS6.out.g1) (fun hHeld => ?_)
      clear hK K hlen
      refine wpAnyH_done (by kernel_rfl) ?_ _
      go_wp2_with (go_at_call 39; refine (operate_1file _ HS6.out ho.out h.out ha.out).mono ?_; rintro x w7 ⟨rfl, h7⟩; have HS7 := Lib.hid h7; clear h7)
      go_ret
      have h7 := HS7.out
      rw [hl0.out, List.nil_append] at h7
      exact ⟨rfl, _, _, _, _, _, h7⟩

end Go.Proofs.Ytafdhgofdocjhaa
