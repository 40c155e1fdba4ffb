/-
  Layer files: a file of many changed; operate, Read and Sync of a store of many files.
-/
import Derived.Test.YtafdhgofdocjhaaHa
import Derived.Test.YtafdhgofdocjhaaFi
set_option linter.unusedSimpArgs false
set_option linter.unusedVariables false
namespace Go.Proofs.Ytafdhgofdocjhaa
open Go.RowKit Go.WideShapes

theorem flat_set (xs : List Fil) (r : List Value) (k : Nat) (x y : Fil) (h : xs[k]? = some x) (j : Nat) (hj : j < 3) (v : Value) (hy : (flC3 x).set j v = flC3 y) : (flat xs ++ r).set (k * 3 + j) v = flat (xs.set k y) ++ r := by
  induction xs generalizing k with
  | nil => simp at h
  | cons z s ih =>
    rw [flat, List.append_assoc]
    rcases k with _ | k
    · simp at h; subst h
      rw [Nat.zero_mul, Nat.zero_add, List.set_append_left _ _ (by simp [flC3]; omega), hy, List.set_cons_zero, flat, List.append_assoc]
    · rw [List.set_append_right _ _ (by simp [flC3]; omega), show (k + 1) * 3 + j - (flC3 z).length = k * 3 + j by simp [flC3]; omega, ih k (by simpa using h), List.set_cons_succ, flat, List.append_assoc]
theorem set_cases {xs : List Fil} {k j : Nat} {y z : Fil} (h : (xs.set k y)[j]? = some z) : (j = k ∧ z = y) ∨ (j ≠ k ∧ xs[j]? = some z) := by
  rw [List.getElem?_set] at h
  by_cases e : k = j
  · rw [if_pos e] at h
    by_cases e2 : k < xs.length
    · rw [if_pos e2] at h; injection h with h; exact .inl ⟨e.symm, h.symm⟩
    · rw [if_neg e2] at h; cases h
  · rw [if_neg e] at h; exact .inr ⟨fun e2 => e e2.symm, h⟩
section
variable {W : World} {g f fcap : Nat} {room armed ops : Int} {off : Bool} {r : List Value} {xs : List Fil} {w w' : World}
theorem SN.putDu (h : SN W g room off armed ops f fcap r xs w) (k : Nat) (x : Fil) (hx : xs[k]? = some x) (v : Nat) : SN W g room off armed ops f fcap r (xs.set k { x with du := v }) (w.setCell ⟨f, k * 3 + 2, none⟩ (.int .i64 (v : Nat))) := by
  have hcase : ∀ (j : Nat) (z : Fil), (xs.set k { x with du := v })[j]? = some z → ∃ u, xs[j]? = some u ∧ z.A = u.A ∧ z.l = u.l ∧ z.cap = u.cap := fun j z hz => by
    rcases set_cases hz with ⟨rfl, rfl⟩ | ⟨-, h1⟩
    · exact ⟨x, hx, rfl, rfl, rfl⟩
    · exact ⟨z, h1, rfl, rfl, rfl⟩
  refine ⟨gb_set h.below (.inr h.fbase) _ _, h.fbase, h.ne, by rw [List.length_set]; exact row_far (Ne.symm h.ne) h.st, ?_, by rw [List.length_set]; exact h.fc, fun j z hz => ?_, fun j z hz => ?_, fun j z hz => ?_, fun i j y z hij hy hz => ?_⟩
  · rw [← flat_set xs r k x { x with du := v } hx 2 (by decide) (.int .i64 (v : Nat)) rfl]; exact row_set h.fl _ _
  · obtain ⟨u, hu, e1, e2, e3⟩ := hcase j z hz; rw [e1, e2, e3]; exact own_far (h.own j u hu) (h.sf j u hu)
  · obtain ⟨u, hu, e1, -⟩ := hcase j z hz; rw [e1]; exact h.sg j u hu
  · obtain ⟨u, hu, e1, -⟩ := hcase j z hz; rw [e1]; exact h.sf j u hu
  · obtain ⟨u, hu, e1, -⟩ := hcase i y hy; obtain ⟨u', hu', e1', -⟩ := hcase j z hz; rw [e1, e1']; exact h.ap i j u u' hij hu hu'
theorem operate_N {e armed' : Int} {off' : Bool} (w : World) (hs : SN W g room false armed ops f fcap r xs w) (ho : Op1 armed e armed' off') (h : 0 ≤ ops ∧ ops < 1000000000) (ha : armed < 1000000000) :
    Calls Try.prog 39 #[.pointer (some ⟨g, 0, none⟩)] w fun x w' => x = .returned (.int .i64 e) ∧ SN W g room off' armed' (ops + 1) f fcap r xs w' := by
  rcases ho.out with ⟨rfl, rfl, rfl, rfl⟩ | ⟨h2, rfl, rfl, rfl⟩ | ⟨rfl, rfl, rfl, rfl⟩
  · refine (operate_0 g ops h w hs.g3 hs.g4 (hs.gf 4)).mono ?_
    rintro x w' ⟨rfl, rfl⟩
    exact ⟨rfl, hs.putOps _⟩
  · refine (operate_n g ops armed h ⟨h2, ha⟩ w hs.g3 hs.g4 (hs.gf 3) (hs.gf 4)).mono ?_
    rintro x w' ⟨rfl, rfl⟩
    exact ⟨rfl, (hs.putOps _).putArmed _⟩
  · refine (operate_1 g ops _ h w hs.g2 hs.g3 hs.g4 (hs.gf 2) (hs.gf 3) (hs.gf 4)).mono ?_
    rintro x w' ⟨rfl, rfl⟩
    exact ⟨rfl, ((hs.putOps _).putArmed _).putOff _⟩
/-- A name that is there. -/
structure There (xs : List Fil) (t : ByteArray) (lo : Nat) (x : Fil) : Prop where
  size : t.size ≤ 4611686018427387904
  form : formK t = true
  place : Place xs t lo
  get : xs[lo]? = some x
  eq : cmpK x.name t = 0
theorem There.isAt {t : ByteArray} {lo : Nat} {x : Fil} (h : There xs t lo x) : isAt xs t lo = true := by unfold Proofs.Ytafdhgofdocjhaa.isAt; rw [h.get]; simp [h.eq]
theorem There.lt {t : ByteArray} {lo : Nat} {x : Fil} (h : There xs t lo x) : lo < xs.length := (List.getElem?_eq_some_iff.1 h.get).1
theorem place_yes {t : ByteArray} {lo : Nat} {x : Fil} (hn : xs.length ≤ 1000) (w : World) (hs : Hid (SN W g room false armed ops f fcap r xs w)) (ht : Hid (There xs t lo x)) :
    Calls Try.prog 43 #[.pointer (some ⟨g, 0, none⟩), .string t] w fun e w' => e = .returned (.tuple #[.int .i64 lo, .int .i64 0]) ∧ Below w.heap.size w w' := by
  refine (place_any g f fcap xs t xs.length (Lib.hid rfl) hn lo (Lib.hid ht.out.place) false w hs.out.g1 hs.out.g2 (Lib.hid hs.out.files)).mono ?_
  rintro e w' ⟨rfl, hb⟩
  exact ⟨by rw [ht.out.form, ht.out.isAt]; rfl, hb⟩
set_option maxHeartbeats 2000000 in
theorem read_yes {t : ByteArray} {lo : Nat} {x : Fil} (hn : xs.length ≤ 1000) (w : World) (hl : x.l.length ≤ 100000000) (hs : Hid (SN W g room false armed ops f fcap r xs w)) (ht : Hid (There xs t lo x)) :
    Calls Try.prog 25 #[.pointer (some ⟨g, 0, none⟩), .string t] w fun e w' => ∃ B c, e = .returned (.tuple #[.slice B x.l.length c, .int .i64 0]) ∧ OwnS w' w.heap.size B x.l.length c x.l ∧ Below w.heap.size w w' := by
  have hlo := ht.out.lt
  go_enter Try.func25, Try.ntmps25
  go_wp2_with (first
    | (go_at_call 43; refine (place_yes hn _ hs ht).mono ?_; rintro z w1 ⟨rfl, hb⟩; have HS1 := Lib.hid (hs.out.next hb); have HB := Lib.hid hb; have c1 := HS1.out.g1; have c2 := (HS1.out.files lo x ht.out.get).2.2.1; clear hb)
    | (go_at_call 48; refine (clone_any x.A x.l x.l.length x.cap (Lib.hid rfl) (by omega) _ (Lib.hid (HS1.out.own lo x ht.out.get).byAt)).mono ?_; rintro z w2 ⟨B, c, rfl, own, hb⟩; have HO := Lib.hid own; have HB2 := Lib.hid hb; clear own hb))
  go_ret2
  exact ⟨B, c, rfl, HO.out.more HB.out.size, below_to HB.out HB2.out⟩
set_option maxHeartbeats 2000000 in
theorem sync_yes {t : ByteArray} {lo : Nat} {x : Fil} {armed' : Int} (hn : xs.length ≤ 1000) (w : World) (hs : Hid (SN W g room false armed ops f fcap r xs w)) (ht : Hid (There xs t lo x)) (ho : Hid (Op1 armed 0 armed' false)) (h : Hid (0 ≤ ops ∧ ops < 1000000000)) (ha : Hid (armed < 1000000000)) :
    Calls Try.prog 15 #[.pointer (some ⟨g, 0, none⟩), .string t] w fun e w' => e = .returned (.int .i64 0) ∧ SN W g room false armed' (ops + 1) f fcap r (xs.set lo { x with du := x.l.length }) w' := by
  have hlo := ht.out.lt
  go_enter Try.func15, Try.ntmps15
  go_upto_region 5 with (first
    | (go_at_call 43; refine (place_yes hn _ hs ht).mono ?_; rintro z w1 ⟨rfl, hb⟩; have HS1 := Lib.hid (hs.out.next hb); clear hb)
    | (go_at_call 39; refine (operate_N _ HS1.out ho.out h.out ha.out).mono ?_; rintro z w2 ⟨rfl, h2⟩; have HS := Lib.hid h2; clear h2))
  have HS3 := Lib.hid HS.out.drew
  have c1 := HS3.out.g1
  have c2 := (HS3.out.files lo x ht.out.get).2.2.1
  have c3 := (HS3.out.files lo x ht.out.get).2.2.2
  have c4 := HS3.out.ff (lo * 3 + 2)
  go_still_tail 16, (by kernel_rfl)
  change wpList _ _ _ _ _ (World.drew _)
  generalize World.drew _ = w3 at *
  go_wp2
  go_ret
  exact ⟨rfl, HS3.out.putDu lo x ht.out.get _⟩
end
end Go.Proofs.Ytafdhgofdocjhaa
