/-
  Layer files: slices.Insert at any place; a file put into the row of a store: plain facts.
-/
import Derived.Test.YtafdhgofdocjhaaIb
import Derived.Test.YtafdhgofdocjhaaIp
import Derived.Test.YtafdhgofdocjhaaHf
import Derived.Test.YtafdhgofdocjhaaHh
set_option linter.unusedSimpArgs false
set_option linter.unusedVariables false
namespace Go.Proofs.Ytafdhgofdocjhaa
open Go.RowKit Go.WideShapes

theorem insert_any (B f k cap i h : Nat) (xs : List Value) (c0 c1 c2 : Value) (hi : i ≤ k) (hk : k ≤ 100000) (w : World) (hB : Hid (B ≤ w.heap.size)) (hown : Hid (OwnX w B (some ⟨f, 0, none⟩) k cap xs)) (hx1 : Hid (∀ u ∈ xs, u.oneCell' = true)) (h1 : Hid (∀ u ∈ [c0, c1, c2], u.oneCell' = true))
    (hc : Hid (w.heap[h]? = some (.cells #[c0, c1, c2] 74 (0, 0)))) (hne : Hid (h ≠ f)) :
    Calls Try.prog 37 #[.slice (some ⟨f, 0, none⟩) k cap, .int .i64 i, .slice (some ⟨h, 0, none⟩) 1 1] w (InsM w B f k i xs [c0, c1, c2]) := by
  rcases Nat.lt_or_ge i k with hlt | hge
  · rcases Nat.lt_or_ge k cap with hr | hr
    · obtain ⟨cs, RX⟩ := hown.out.row
      exact insert_room B f k cap i h xs c0 c1 c2 hlt hk (Lib.hid hr) (Lib.hid RX.hcap) w hown hx1 h1 hc hne
    · exact insert_full B f k cap i h xs c0 c1 c2 hlt hk (Lib.hid (by omega)) w hB hown hx1 h1 hc hne
  · obtain rfl : i = k := by omega
    refine (insert_end B (some ⟨f, 0, none⟩) i cap h xs c0 c1 c2 hk w hown hB h1 (Lib.hid fun j u hu => ?_)).mono ?_
    · rw [addr_add, Nat.zero_add, cell_of_row _ _ _ _ _ _ hc.out, ← hu]; simp
    · rintro e w' ⟨F', cap', rfl, ho, hg, hb⟩
      have hl := hown.out.1
      refine ⟨F', cap', rfl, ?_, hg, hb⟩
      rw [List.take_of_length_le (by omega), List.drop_of_length_le (by omega), List.append_nil]; exact ho
/-- A file's bytes are its own, and none of the other files'. -/
structure Apart (W w : World) (g f : Nat) (xs : List Fil) (y : Fil) : Prop where
  own : OwnS w W.heap.size y.A y.l.length y.cap y.l
  sg : y.A.map (·.block) ≠ some g
  sf : y.A.map (·.block) ≠ some f
  ap : ∀ (k : Nat) (x : Fil), xs[k]? = some x → ∀ b, y.A.map (·.block) = some b → x.A.map (·.block) ≠ some b
theorem apart_empty (W w : World) (g f : Nat) (xs : List Fil) (t : ByteArray) : Apart W w g f xs (emptyF t) :=
  ⟨OwnS.nil _ _, (fun e => by cases e), (fun e => by cases e), (fun k x hx b e => by cases e)⟩
/-- The row with one file more is made; the store does not yet know. -/
structure EI (W : World) (g : Nat) (room : Int) (off : Bool) (armed ops : Int) (f fcap : Nat) (r : List Value) (xs : List Fil) (Fo : Option Addr) (no co : Nat) (w : World) : Prop where
  below : W.grownBy w (some g)
  fbase : W.heap.size ≤ f
  ne : g ≠ f
  st : w.heap[g]? = some (.cells (stC room Fo no co off armed ops).toArray 68 (0, 0))
  fl : w.heap[f]? = some (.cells (flat xs ++ r).toArray 74 (0, 0))
  fc : r.length + xs.length * 3 = fcap * 3 ∧ fcap ≤ maxLen
  own : ∀ (k : Nat) (x : Fil), xs[k]? = some x → OwnS w W.heap.size x.A x.l.length x.cap x.l
  sg : ∀ (k : Nat) (x : Fil), xs[k]? = some x → x.A.map (·.block) ≠ some g
  sf : ∀ (k : Nat) (x : Fil), xs[k]? = some x → x.A.map (·.block) ≠ some f
  ap : ∀ (j k : Nat) (x y : Fil), j ≠ k → xs[j]? = some x → xs[k]? = some y → ∀ b, x.A.map (·.block) = some b → y.A.map (·.block) ≠ some b
section
variable {W : World} {g f fcap : Nat} {room armed ops : Int} {off : Bool} {r : List Value} {xs : List Fil} {w w' : World}
theorem EI.cg {Fo : Option Addr} {no co : Nat} (h : EI W g room off armed ops f fcap r xs Fo no co w) : w.cell? ⟨g, 1, none⟩ = some (.slice Fo no co) := row_cells h.st 1 _ rfl
theorem EI.kg {Fo : Option Addr} {no co : Nat} (h : EI W g room off armed ops f fcap r xs Fo no co w) : w.frozen? ⟨g, 1, none⟩ = false := row_frozen h.st 1
theorem EI.done {Fo : Option Addr} {no co : Nat} (h : EI W g room off armed ops f fcap r xs Fo no co w) : SN W g room off armed ops f fcap r xs (w.setCell ⟨g, 1, none⟩ (.slice (some ⟨f, 0, none⟩) xs.length fcap)) :=
  ⟨gb_set h.below (.inl rfl) _ _, h.fbase, h.ne, row_set h.st 1 _, row_far h.ne h.fl, h.fc, fun k x hx => own_far (h.own k x hx) (h.sg k x hx), h.sg, h.sf, h.ap⟩
theorem ins_file {F : Option Addr} {cap lo : Nat} {y : Fil} (hlo : lo ≤ xs.length) (h : SN W g room off armed ops f fcap r xs w) (hy : Apart W w g f xs y) (hox : OwnX w' W.heap.size F (xs.length + 1) cap ((flat xs).take (lo * 3) ++ (flC3 y ++ (flat xs).drop (lo * 3)))) (hgr : w.grownBy w' (some f)) (hblk : F.map (·.block) = some f ∨ F.map (·.block) = some w.heap.size) :
    ∃ f' r', F = some ⟨f', 0, none⟩ ∧ EI W g room off armed ops f' cap r' (ins xs lo y) (some ⟨f, 0, none⟩) xs.length fcap w' := by
  have hgl := (Array.getElem?_eq_some_iff.1 h.st).1
  rw [← flat_ins] at hox
  rcases hox.2 with ⟨h1, h2⟩ | ⟨f', cap', cur, h1, hb, hrow, -, hc, hs, ht⟩
  · omega
  · cases h1
    have hf : f' = f ∨ f' = w.heap.size := by
      rcases hblk with h | h
      · exact .inl (by simpa using h)
      · exact .inr (by simpa using h)
    have hlen := hox.1
    have hsf : ∀ (k : Nat) (x : Fil), xs[k]? = some x → x.A.map (·.block) ≠ some f' := fun k x hx e => by
      rcases hf with rfl | rfl
      · exact h.sf k x hx e
      · exact absurd ((h.own k x hx).lt _ e) (Nat.lt_irrefl _)
    have hyf : y.A.map (·.block) ≠ some f' := fun e => by
      rcases hf with rfl | rfl
      · exact hy.sf e
      · exact absurd (hy.own.lt _ e) (Nat.lt_irrefl _)
    refine ⟨f', cur.toList.drop ((xs.length + 1) * 3), rfl, ⟨gb_grown h.below hgr (fun k hk => by injection hk with hk; rw [← hk]; exact h.fbase), hb, ?_, (hgr.block g hgl (fun e => by injection e with e; exact h.ne e)).trans h.st, ?_, ⟨?_, hc⟩, fun j z hz => ?_, fun j z hz => ?_, fun j z hz => ?_, fun i j a z hij ha hz => ?_⟩⟩
    · rcases hf with rfl | rfl
      · exact h.ne
      · omega
    · rw [hrow]
      have e : cur = (flat (ins xs lo y) ++ cur.toList.drop ((xs.length + 1) * 3)).toArray := by
        rw [← ht, List.take_append_drop]
      rw [← e]
    · have h4 : cur.toList.length = cap * 3 := by simpa using hs
      have h3 := congrArg List.length ht
      rw [List.length_take, hlen, h4] at h3
      rw [List.length_drop, ins_len, h4]; omega
    · rcases ins_from hlo hz with ⟨-, rfl⟩ | ⟨-, hu⟩
      · exact own_grown hy.own hgr (fun b hb e => hy.sf (by rw [hb]; exact e.symm))
      · exact own_grown (h.own _ z hu) hgr (fun b hb e => h.sf _ z hu (by rw [hb]; exact e.symm))
    · rcases ins_from hlo hz with ⟨-, rfl⟩ | ⟨-, hu⟩
      · exact hy.sg
      · exact h.sg _ z hu
    · rcases ins_from hlo hz with ⟨-, rfl⟩ | ⟨-, hu⟩
      · exact hyf
      · exact hsf _ z hu
    · rcases ins_from hlo ha with ⟨hi, rfl⟩ | ⟨hi, hu⟩ <;> rcases ins_from hlo hz with ⟨hj, rfl⟩ | ⟨hj, hu'⟩
      · omega
      · exact hy.ap _ z hu'
      · exact fun b hb e => hy.ap _ a hu b e hb
      · exact h.ap _ _ a z (by split <;> split <;> omega) hu hu'
theorem first_fileI (hz : S0 W g room off armed ops w) {F : Option Addr} {cap : Nat} {t : ByteArray} (hox : OwnX w' W.heap.size F (0 + 1) cap ([] ++ [.string t, .slice none 0 0, .int .i64 0])) (hgr : w.grownBy w' (Option.map (·.block) (none : Option Addr))) (hblk : F.map (·.block) = Option.map (·.block) (none : Option Addr) ∨ F.map (·.block) = some w.heap.size) :
    ∃ f r', F = some ⟨f, 0, none⟩ ∧ EI W g room off armed ops f cap r' [emptyF t] none 0 0 w' := by
  have hgl := (Array.getElem?_eq_some_iff.1 hz.st).1
  have one : ∀ {k : Nat} {x : Fil}, [emptyF t][k]? = some x → k = 0 ∧ x = emptyF t := fun {k x} hx => by
    rcases k with _ | k
    · exact ⟨rfl, by simpa using hx.symm⟩
    · simp at hx
  rcases hox.2 with ⟨h1, h2⟩ | ⟨f, cap', cur, h1, hb, hrow, -, hc, hs, ht⟩
  · omega
  · cases h1
    have hf : f = w.heap.size := by
      rcases hblk with h | h
      · cases h
      · simpa using h
    have h3 : cur.toList.take 3 = flat [emptyF t] := by simpa [flat, flC3, emptyF] using ht
    refine ⟨f, cur.toList.drop 3, rfl, ⟨gb_grown hz.below hgr (fun k hk => by cases hk), hb, by omega, (hgr.block g hgl (fun e => by cases e)).trans hz.st, ?_, ⟨?_, hc⟩, fun j z h => ?_, fun j z h => ?_, fun j z h => ?_, fun i j a z hij ha h => ?_⟩⟩
    · rw [hrow]
      have e : cur = (flat [emptyF t] ++ cur.toList.drop 3).toArray := by rw [← h3, List.take_append_drop]
      rw [← e]
    · have h4 := congrArg List.length h3
      rw [List.length_take, Array.length_toList] at h4
      have : (flat [emptyF t]).length = 3 := rfl
      rw [List.length_drop, Array.length_toList]; simp; omega
    · obtain ⟨-, rfl⟩ := one h; exact OwnS.nil _ _
    · obtain ⟨-, rfl⟩ := one h; exact fun e => by cases e
    · obtain ⟨-, rfl⟩ := one h; exact fun e => by cases e
    · exact absurd ((one ha).1.trans (one h).1.symm) hij
theorem boxed {cs : Array Value} {ty : TypeId} (w : World) : (w.alloc (.cells cs ty)).heap[w.heap.size]? = some (.cells cs ty (0, 0)) := heap_alloc_new' w _
theorem alloc_stepI (t : ByteArray) {p : Option Addr} {m : List Nat} (hz : Hid (SN W g room off armed ops f fcap r xs w)) (hp : Hid (ByAt w p m)) :
    Hid (SN W g room off armed ops f fcap r xs (w.alloc (.cells #[.string t, .slice none 0 0, .int .i64 0] 74))) ∧ Hid (ByAt (w.alloc (.cells #[.string t, .slice none 0 0, .int .i64 0] 74)) p m) ∧
    Hid ((w.alloc (.cells #[.string t, .slice none 0 0, .int .i64 0] 74)).heap[w.heap.size]? = some (.cells #[.string t, .slice none 0 0, .int .i64 0] 74 (0, 0))) ∧ Hid (w.heap.size ≠ f) :=
  have hb := (Below.refl w.heap.size w).alloc (Nat.le_refl _) (.cells #[.string t, .slice none 0 0, .int .i64 0] 74)
  ⟨Lib.hid (hz.out.next hb), Lib.hid (hp.out.keep hb), Lib.hid (boxed w), Lib.hid (by have := (Array.getElem?_eq_some_iff.1 hz.out.fl).1; omega)⟩
theorem alloc_stepZ (t : ByteArray) {p : Option Addr} {m : List Nat} (hz : Hid (S0 W g room off armed ops w)) (hp : Hid (ByAt w p m)) :
    Hid (S0 W g room off armed ops (w.alloc (.cells #[.string t, .slice none 0 0, .int .i64 0] 74))) ∧ Hid (ByAt (w.alloc (.cells #[.string t, .slice none 0 0, .int .i64 0] 74)) p m) ∧
    Hid (∀ (j : Nat) (u : Value), [Value.string t, .slice none 0 0, .int .i64 0][j]? = some u → (w.alloc (.cells #[.string t, .slice none 0 0, .int .i64 0] 74)).cell? ((⟨w.heap.size, 0, none⟩ : Addr).add j) = some u) :=
  have hb := (Below.refl w.heap.size w).alloc (Nat.le_refl _) (.cells #[.string t, .slice none 0 0, .int .i64 0] 74)
  ⟨Lib.hid (hz.out.next hb), Lib.hid (hp.out.keep hb), Lib.hid (new_cellsN t w _)⟩
theorem ByAt.grownI {p : Option Addr} {m : List Nat} (h : ByAt w p m) (hg : w.grownBy w' (some f)) (hp : ∀ (k x : Nat), m[k]? = some x → p.map (·.block) ≠ some f) : ByAt w' p m := fun k x hx => by
  obtain ⟨h1, b, off, h2, h3, h4⟩ := h k x hx
  exact ⟨h1, b, off, h2, Nat.lt_of_lt_of_le h3 hg.size, hg.cell h4 (fun e => hp k x hx (by rw [h2]; simpa using e))⟩
theorem by_apart {p : Option Addr} {m : List Nat} (h : ByAt W p m) (hf : W.heap.size ≤ f) : ∀ (k x : Nat), m[k]? = some x → p.map (·.block) ≠ some f := fun k x hx => by
  obtain ⟨h1, b, off, h2, h3, h4⟩ := h k x hx
  rw [h2]; intro e; simp at e; omega
theorem ByAt.putI {p : Option Addr} {m : List Nat} {v : Value} {Fo : Option Addr} {n c : Nat} (h : ByAt w p m) (hs : w.heap[g]? = some (.cells (stC room Fo n c off armed ops).toArray 68 (0, 0))) : ByAt (w.setCell ⟨g, 1, none⟩ v) p m := ByAt.putG h hs
end
end Go.Proofs.Ytafdhgofdocjhaa
