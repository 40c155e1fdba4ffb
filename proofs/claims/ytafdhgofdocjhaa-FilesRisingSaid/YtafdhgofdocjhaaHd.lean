/-
  Layer files: a file put behind the others of a store.
-/
import Derived.Test.YtafdhgofdocjhaaHc
import Derived.Test.YtafdhgofdocjhaaFh
set_option linter.unusedSimpArgs false
set_option linter.unusedVariables false
namespace Go.Proofs.Ytafdhgofdocjhaa
open Go.RowKit Go.WideShapes

theorem one3N (t : ByteArray) : ∀ u ∈ [Value.string t, .slice none 0 0, .int .i64 0], u.oneCell' = true := fun u hu => by
  simp only [List.mem_cons, List.not_mem_nil, or_false] at hu
  rcases hu with rfl | rfl | rfl <;> rfl
theorem new_cellsN (t : ByteArray) (w : World) (ty : TypeId) (j : Nat) (u : Value) (h : [Value.string t, .slice none 0 0, .int .i64 0][j]? = some u) : (w.alloc (.cells #[.string t, .slice none 0 0, .int .i64 0] ty)).cell? ((⟨w.heap.size, 0, none⟩ : Addr).add j) = some u := by
  rw [addr_add, Nat.zero_add, cell_of_row _ _ _ _ _ _ (heap_alloc_new' w _), ← h]; simp
/-- The row with one more file is made; the store does not yet know. -/
structure EN (W : World) (g : Nat) (room : Int) (off : Bool) (armed ops : Int) (f fcap : Nat) (r : List Value) (xs : List Fil) (fo no co : Nat) (w : World) : Prop where
  below : W.grownBy w (some g)
  fbase : W.heap.size ≤ f
  ne : g ≠ f
  st : w.heap[g]? = some (.cells (stC room (some ⟨fo, 0, none⟩) no co off armed ops).toArray 68 (0, 0))
  fl : w.heap[f]? = some (.cells (flat xs ++ r).toArray 74 (0, 0))
  fc : r.length + xs.length * 3 = fcap * 3 ∧ fcap ≤ maxLen
  own : ∀ (k : Nat) (x : Fil), xs[k]? = some x → OwnS w W.heap.size x.A x.l.length x.cap x.l
  sg : ∀ (k : Nat) (x : Fil), xs[k]? = some x → x.A.map (·.block) ≠ some g
  sf : ∀ (k : Nat) (x : Fil), xs[k]? = some x → x.A.map (·.block) ≠ some f
  ap : ∀ (j k : Nat) (x y : Fil), j ≠ k → xs[j]? = some x → xs[k]? = some y → ∀ b, x.A.map (·.block) = some b → y.A.map (·.block) ≠ some b
def emptyF (t : ByteArray) : Fil := ⟨t, none, 0, [], 0⟩
theorem flat_end (xs : List Fil) (t : ByteArray) : flat (xs ++ [emptyF t]) = flat xs ++ [.string t, .slice none 0 0, .int .i64 0] := by
  induction xs with
  | nil => rfl
  | cons x r ih => rw [List.cons_append, flat, flat, ih, List.append_assoc]
theorem end_len (xs : List Fil) (t : ByteArray) : (xs ++ [emptyF t]).length = xs.length + 1 := by simp
theorem end_cases {xs : List Fil} {t : ByteArray} {j : Nat} {z : Fil} (h : (xs ++ [emptyF t])[j]? = some z) : (j = xs.length ∧ z = emptyF t) ∨ (j < xs.length ∧ xs[j]? = some z) := by
  rcases Nat.lt_or_ge j xs.length with hj | hj
  · rw [List.getElem?_append_left hj] at h; exact .inr ⟨hj, h⟩
  · rw [List.getElem?_append_right hj] at h
    rcases hd : j - xs.length with _ | k
    · rw [hd] at h; simp at h; exact .inl ⟨by omega, h.symm⟩
    · rw [hd] at h; simp at h
section
variable {W : World} {g f fcap : Nat} {room armed ops : Int} {off : Bool} {r : List Value} {xs : List Fil} {w w' : World}
theorem SN.ownX (h : SN W g room off armed ops f fcap r xs w) : OwnX w W.heap.size (some ⟨f, 0, none⟩) xs.length fcap (flat xs) :=
  ⟨flat_len xs, .inr ⟨f, fcap, (flat xs ++ r).toArray, rfl, h.fbase, h.fl, by have := h.fc.1; omega, h.fc.2, by have h1 := flat_len xs; have := h.fc.1; simp [h1]; omega, by simp [← flat_len xs]⟩⟩
theorem EN.cg {fo no co : Nat} (h : EN W g room off armed ops f fcap r xs fo no co w) : w.cell? ⟨g, 1, none⟩ = some (.slice (some ⟨fo, 0, none⟩) no co) := row_cells h.st 1 _ rfl
theorem EN.kg {fo no co : Nat} (h : EN W g room off armed ops f fcap r xs fo no co w) : w.frozen? ⟨g, 1, none⟩ = false := row_frozen h.st 1
theorem EN.done {fo no co : Nat} (h : EN W g room off armed ops f fcap r xs fo no co w) : SN W g room off armed ops f fcap r xs (w.setCell ⟨g, 1, none⟩ (.slice (some ⟨f, 0, none⟩) xs.length fcap)) :=
  ⟨gb_set h.below (.inl rfl) _ _, h.fbase, h.ne, row_set h.st 1 _, row_far h.ne h.fl, h.fc, fun k x hx => own_far (h.own k x hx) (h.sg k x hx), h.sg, h.sf, h.ap⟩
theorem end_file {F : Option Addr} {cap : Nat} (h : SN W g room off armed ops f fcap r xs w) (t : ByteArray) (hox : OwnX w' W.heap.size F (xs.length + 1) cap (flat xs ++ [.string t, .slice none 0 0, .int .i64 0])) (hgr : w.grownBy w' (Option.map (·.block) (some (⟨f, 0, none⟩ : Addr)))) (hblk : F.map (·.block) = Option.map (·.block) (some (⟨f, 0, none⟩ : Addr)) ∨ F.map (·.block) = some w.heap.size) :
    ∃ f' r', F = some ⟨f', 0, none⟩ ∧ EN W g room off armed ops f' cap r' (xs ++ [emptyF t]) f xs.length fcap w' := by
  have hgl := (Array.getElem?_eq_some_iff.1 h.st).1
  have hfl := (Array.getElem?_eq_some_iff.1 h.fl).1
  rcases hox.2 with ⟨h1, h2⟩ | ⟨f', cap', cur, h1, hb, hrow, -, hc, hs, ht⟩
  · omega
  · cases h1
    have hf : f' = f ∨ f' = w.heap.size := by
      rcases hblk with h | h
      · exact .inl (by simpa using h)
      · exact .inr (by simpa using h)
    have hlen := hox.1
    have hsf : ∀ (k : Nat) (x : Fil), xs[k]? = some x → x.A.map (·.block) ≠ some f' := fun k x hx e => by
      rcases hf with rfl | rfl
      · exact h.sf k x hx e
      · exact absurd ((h.own k x hx).lt _ e) (Nat.lt_irrefl _)
    refine ⟨f', cur.toList.drop ((xs.length + 1) * 3), rfl, ⟨gb_grown h.below hgr (fun k hk => by simp at hk; rw [← hk]; exact h.fbase), hb, ?_, (hgr.block g hgl (fun e => by simp at e; exact h.ne e)).trans h.st, ?_, ⟨?_, hc⟩, fun j z hz => ?_, fun j z hz => ?_, fun j z hz => ?_, fun i j y z hij hy hz => ?_⟩⟩
    · rcases hf with rfl | rfl
      · exact h.ne
      · omega
    · rw [hrow]
      have e : cur = (flat (xs ++ [emptyF t]) ++ cur.toList.drop ((xs.length + 1) * 3)).toArray := by
        rw [flat_end, ← ht, List.take_append_drop]
      rw [← e]
    · have h4 : cur.toList.length = cap * 3 := by simpa using hs
      have h3 := congrArg List.length ht
      rw [List.length_take, hlen, h4] at h3
      rw [List.length_drop, end_len, h4]; omega
    · rcases end_cases hz with ⟨-, rfl⟩ | ⟨-, hu⟩
      · exact OwnS.nil _ _
      · exact own_grown (h.own j z hu) hgr (fun b hb e => h.sf j z hu (by rw [hb]; simp at e; rw [e]))
    · rcases end_cases hz with ⟨-, rfl⟩ | ⟨-, hu⟩
      · exact fun e => by cases e
      · exact h.sg j z hu
    · rcases end_cases hz with ⟨-, rfl⟩ | ⟨-, hu⟩
      · exact fun e => by cases e
      · exact hsf j z hu
    · rcases end_cases hy with ⟨-, rfl⟩ | ⟨-, hu⟩ <;> rcases end_cases hz with ⟨-, rfl⟩ | ⟨-, hu'⟩
      · exact fun b e => by cases e
      · exact fun b e => by cases e
      · exact fun b _ e => by cases e
      · exact h.ap i j y z hij hu hu'
theorem ByAt.grownF {p : Option Addr} {m : List Nat} (h : ByAt w p m) (hg : w.grownBy w' (Option.map (·.block) (some (⟨f, 0, none⟩ : Addr)))) (hp : p.map (·.block) ≠ some f) : ByAt w' p m := fun k x hx => by
  obtain ⟨h1, b, off, h2, h3, h4⟩ := h k x hx
  exact ⟨h1, b, off, h2, Nat.lt_of_lt_of_le h3 hg.size, hg.cell h4 (fun e => hp (by rw [h2]; simpa using e))⟩
theorem ByAt.putG {p : Option Addr} {m : List Nat} {v : Value} {F : Option Addr} {n c : Nat} (h : ByAt w p m) (hs : w.heap[g]? = some (.cells (stC room F n c off armed ops).toArray 68 (0, 0))) : ByAt (w.setCell ⟨g, 1, none⟩ v) p m := fun k x hx => by
  obtain ⟨h1, b, off, h2, h3, h4⟩ := h k x hx
  refine ⟨h1, b, off, h2, by rw [setCell_size]; exact h3, ?_⟩
  by_cases e : b = g
  · subst e
    rw [cell_of_row w b (off + k) _ _ _ hs] at h4
    exfalso
    rcases hj : off + k with _ | _ | _ | _ | _ | j
    all_goals (rw [hj] at h4; simp [stC] at h4)
  · rw [World.cell?_setCell_other _ _ _ _ (fun e' => e (congrArg Addr.block e').symm)]
    exact h4
theorem alloc_stepN (t : ByteArray) {p : Option Addr} {m : List Nat} (hz : Hid (SN W g room off armed ops f fcap r xs w)) (hp : Hid (ByAt w p m)) :
    Hid (SN W g room off armed ops f fcap r xs (w.alloc (.cells #[.string t, .slice none 0 0, .int .i64 0] 74))) ∧ Hid (ByAt (w.alloc (.cells #[.string t, .slice none 0 0, .int .i64 0] 74)) p m) ∧
    Hid (∀ (j : Nat) (u : Value), [Value.string t, .slice none 0 0, .int .i64 0][j]? = some u → (w.alloc (.cells #[.string t, .slice none 0 0, .int .i64 0] 74)).cell? ((⟨w.heap.size, 0, none⟩ : Addr).add j) = some u) :=
  have hb := (Below.refl w.heap.size w).alloc (Nat.le_refl _) (.cells #[.string t, .slice none 0 0, .int .i64 0] 74)
  ⟨Lib.hid (hz.out.next hb), Lib.hid (hp.out.keep hb), Lib.hid (new_cellsN t w _)⟩
end
end Go.Proofs.Ytafdhgofdocjhaa
