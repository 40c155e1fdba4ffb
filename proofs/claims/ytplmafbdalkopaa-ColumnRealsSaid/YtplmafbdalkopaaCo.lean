/-
  Layer column, plain facts: what is laid is read.
-/
import Derived.Test.YtplmafbdalkopaaCn
set_option linter.unusedSimpArgs false
set_option linter.unusedVariables false
set_option maxRecDepth 8000
namespace Go.Proofs.Ytplmafbdalkopaa
open Go.RowKit Go.WideShapes Col
namespace Col
theorem grp_back (n : Nat) (hn : n < 18446744073709551616) (r : List Nat) : grp 0 (ub n ++ r) = some (n, r) := grp_ub r n 0 ⟨by omega, hn⟩ (.inr rfl)
theorem uP_back {most n : Nat} (hn : n ≤ most) (h : n < 18446744073709551616) (r : List Nat) : uP most (ub n ++ r) = some (n, r) := by
  unfold uP; rw [grp_back n h r]; simp [hn]
theorem zP_back {x : Int} (h : Wf64 x) (r : List Nat) : zP (ub (zz x) ++ r) = some (x, r) := by
  unfold zP; rw [grp_back _ (zz_lt h) r]; simp [uz_zz]
theorem drop_get {l : List Int} {k : Nat} (h : k < l.length) : ∃ x, l[k]? = some x ∧ l.drop k = x :: l.drop (k + 1) ∧ l.take (k + 1) = l.take k ++ [x] :=
  ⟨l[k], List.getElem?_eq_getElem h, List.drop_eq_getElem_cons h, by rw [List.take_add_one, List.getElem?_eq_getElem h]; rfl⟩
theorem plain_back (l : List Int) (hl : ∀ x ∈ l, Wf64 x) (r : List Nat) : ∀ k, k ≤ l.length → runS zP k (lpl l ++ r) = some (l.take k, lpl (l.drop k) ++ r)
  | 0, _ => by simp [runS]
  | k + 1, h => by
    obtain ⟨x, hx, h1, h2⟩ := drop_get (l := l) (k := k) (by omega)
    rw [runS, plain_back l hl r k (by omega), h1]
    have e : lpl (x :: l.drop (k + 1)) = ub (zz x) ++ lpl (l.drop (k + 1)) := by simp [lpl]
    simp only [Option.bind_some]
    rw [e, List.append_assoc, zP_back (hl x (List.mem_of_getElem? hx)), h2]; rfl
theorem delta_back (l : List Int) (hl : ∀ x ∈ l, Wf64 x) (r : List Nat) : ∀ k, k ≤ l.length → runS dstep k (0, lde 0 l ++ r) = some (l.take k, (lastOf 0 (l.take k), lde (lastOf 0 (l.take k)) (l.drop k) ++ r))
  | 0, _ => by simp [runS, lastOf]
  | k + 1, h => by
    obtain ⟨x, hx, h1, h2⟩ := drop_get (l := l) (k := k) (by omega)
    have hp := lastOf_wf (l.take k) fun y hy => hl y (List.mem_of_mem_take hy)
    have hwx := hl x (List.mem_of_getElem? hx)
    have hls := lastOf_snoc 0 l k x hx
    rw [runS, delta_back l hl r k (by omega), h1]
    generalize lastOf 0 (l.take k) = p at *
    have e : wrap64 (p + sub64 x p) = x := by
      rw [sub64_eq]; unfold wrap64; unfold Wf64 at *; omega
    simp only [Option.bind_some]
    rw [lde, List.append_assoc]
    unfold dstep
    simp only
    rw [zP_back (sub64_wf x p)]
    simp only [Option.map_some]
    rw [e, h2, ← h2, hls, h2]
theorem runN_take (x : Int) : ∀ t : List Int, t.take (runN x t) = List.replicate (runN x t) x
  | [] => rfl
  | y :: t => by
    unfold runN
    split
    · rename_i h; subst h; rw [List.take_succ_cons, runN_take y t]; rfl
    · rfl
theorem runs_back (n : Nat) : ∀ l : List Int, l.length ≤ n → l.length ≤ 1000000 → (∀ x ∈ l, Wf64 x) → ∀ r, rruns l.length (lru l ++ r) = some (l, r) := by
  induction n with
  | zero => intro l h _ _ r; rw [List.eq_nil_of_length_eq_zero (by omega : l.length = 0), lru_nil]; exact rruns_zero r
  | succ n ih =>
    intro l h h1 h2 r
    rcases l with _ | ⟨x, t⟩
    · rw [lru_nil]; exact rruns_zero r
    · have hr := runN_le x t
      have hk : runN x t < 18446744073709551616 := by simp at h1; omega
      have h3 := ih (t.drop (runN x t)) (by rw [List.length_drop]; simp at h; omega) (by rw [List.length_drop]; simp at h1; omega) (fun y hy => h2 y (List.mem_cons_of_mem _ (List.mem_of_mem_drop hy))) r
      rw [List.length_drop] at h3
      rw [lru, List.length_cons, List.append_assoc, rruns_yes (zP_back (h2 x (List.mem_cons_self ..)) _) (by rw [List.append_assoc]; exact uP_back hr hk _), h3]
      simp only [Option.map_some, List.replicate_succ, List.cons_append]
      rw [← runN_take, List.take_append_drop]
theorem pk_get (W : Nat) : ∀ (ds : List Nat) (i d : Nat), ds[i]? = some d → (∀ x ∈ ds, x < 2 ^ W) → bitsAt (pk W ds) (i * W) W = d
  | [], i, d, h, _ => by simp at h
  | e :: ds, 0, d, h, hd => by
    simp at h; subst h
    unfold bitsAt
    rw [pk, Nat.zero_mul, Nat.pow_zero, Nat.div_one, Nat.add_mul_mod_self_left, Nat.mod_eq_of_lt (hd _ (List.mem_cons_self ..))]
  | e :: ds, i + 1, d, h, hd => by
    have ih := pk_get W ds i d (by simpa using h) fun x hx => hd x (List.mem_cons_of_mem _ hx)
    unfold bitsAt at *
    rw [pk, Nat.add_mul, Nat.one_mul, Nat.add_comm (i * W), Nat.pow_add, ← Nat.div_div_eq_div_mul, Nat.add_mul_div_left _ _ (Nat.two_pow_pos _), Nat.div_eq_of_lt (hd e (List.mem_cons_self ..)), Nat.zero_add]
    exact ih
theorem packed_back (l : List Int) (hl : ∀ x ∈ l, Wf64 x) (r : List Nat) : rpk l.length (lpk l ++ r) = some (l, r) := by
  by_cases h0 : l.length = 0
  · rw [List.eq_nil_of_length_eq_zero h0, lpk_nil]; rfl
  · have hW := wid_le hl
    have hmn := mnL_wf hl
    have hpk := pk_lt (wid l) (digs l) dig_lt
    have hdl : (digs l).length = l.length := List.length_map ..
    rw [hdl, Nat.mul_comm] at hpk
    have hV : pk (wid l) (digs l) < 2 ^ (8 * ((l.length * wid l + 7) / 8)) := Nat.lt_of_lt_of_le hpk (Nat.pow_le_pow_right (by decide) (by omega))
    have hlen := leb_length ((l.length * wid l + 7) / 8) (pk (wid l) (digs l))
    have hget : ∀ (i : Nat) (x : Int), l[i]? = some x → pval (wid l) (pk (wid l) (digs l)) (mnL l) i = x := fun i x hx => by
      have hd : (digs l)[i]? = some (dig (mnL l) x) := by unfold digs; rw [List.getElem?_map, hx]; rfl
      unfold pval
      rw [pk_get _ _ i _ hd dig_lt]
      have h1 := mn_le (List.mem_of_getElem? hx)
      have h2 := hl x (List.mem_of_getElem? hx)
      unfold dig
      rw [IntKind.wrap_i64]; unfold wrap64; unfold Wf64 at *; omega
    rw [lpk_some (by omega)]
    generalize wid l = W at *
    generalize pk W (digs l) = V at *
    have ht : (leb ((l.length * W + 7) / 8) V ++ r).take ((l.length * W + 7) / 8) = leb ((l.length * W + 7) / 8) V := by
      rw [List.take_append_of_le_length (by omega), List.take_of_length_le (by omega)]
    have hdr : (leb ((l.length * W + 7) / 8) V ++ r).drop ((l.length * W + 7) / 8) = r := by
      rw [List.drop_append_of_le_length (by omega), List.drop_of_length_le (by omega), List.nil_append]
    rw [List.append_assoc, rpk_of h0 (zP_back hmn _), List.append_assoc]
    show rpk2 _ _ (W :: (leb _ V ++ r)) = _
    rw [rpk2_yes rfl ⟨hW, by rw [List.length_append, hlen]; omega, by rw [ht, vlb_leb, Nat.mod_eq_of_lt hV]; exact hpk⟩, ht, hdr, vlb_leb, Nat.mod_eq_of_lt hV]
    congr 2
    apply List.ext_getElem?
    intro i
    by_cases hi : i < l.length
    · rw [List.getElem?_map, List.getElem?_range hi, List.getElem?_eq_getElem hi]
      exact congrArg some (hget i _ (List.getElem?_eq_getElem hi))
    · rw [List.getElem?_eq_none (by simp; omega), List.getElem?_eq_none (by omega)]
/-- What As lays ReadInts reads. -/
theorem as_back (way : Nat) (hw : way < 4) (l : List Int) (hl : ∀ x ∈ l, Wf64 x) (hn : l.length ≤ 4096) : rI (asL way l) = some (l, []) := by
  unfold asL
  rw [List.append_assoc]
  show rI (way :: (ub l.length ++ _)) = _
  rw [rI_yes (uP_back hn (by omega) _)]
  have hcases : way = 0 ∨ way = 1 ∨ way = 2 ∨ way = 3 := by omega
  unfold rW
  rcases hcases with rfl | rfl | rfl | rfl
  · have h := plain_back l hl [] l.length (Nat.le_refl _)
    rw [List.append_nil, List.take_length, List.drop_length, lpl_nil] at h
    simpa using h
  · have h := delta_back l hl [] l.length (Nat.le_refl _)
    rw [List.append_nil, List.take_length, List.drop_length] at h
    simp [rdDelta, h, lde]
  · have h := runs_back l.length l (Nat.le_refl _) (by omega) hl []
    rw [List.append_nil] at h
    simpa using h
  · have h := packed_back l hl []
    rw [List.append_nil] at h
    simpa using h
theorem asr_back (way : Nat) (hw : way < 4) (l : List Int) (hl : ∀ x ∈ l, Wf64 x) (hn : l.length ≤ 4096) : riL (asL way l) = some l := riL_some (as_back way hw l hl hn)
theorem best_is (k : Nat) (l : List Int) : ∃ way, way ≤ k ∧ bestL k l = asL way l := by
  induction k with
  | zero => exact ⟨0, Nat.le_refl _, rfl⟩
  | succ k ih =>
    obtain ⟨way, h1, h2⟩ := ih
    show ∃ way, way ≤ k + 1 ∧ pickL (bestL k l) (asL (k + 1) l) = asL way l
    unfold pickL
    split
    · exact ⟨k + 1, Nat.le_refl _, rfl⟩
    · exact ⟨way, by omega, h2⟩
theorem ints_back (l : List Int) (hl : ∀ x ∈ l, Wf64 x) (hn : l.length ≤ 4096) : rI (intsL l) = some (l, []) := by
  obtain ⟨way, h1, h2⟩ := best_is 3 l
  unfold intsL; rw [h2]; exact as_back way (by omega) l hl hn
theorem pick_le (b p : List Nat) : (pickL b p).length ≤ b.length ∧ (pickL b p).length ≤ p.length := by unfold pickL; split <;> omega
theorem best_le (k : Nat) (l : List Int) : ∀ way, way ≤ k → (bestL k l).length ≤ (asL way l).length := by
  induction k with
  | zero => intro way h; rw [show way = 0 by omega]; exact Nat.le_refl _
  | succ k ih =>
    intro way h
    show (pickL (bestL k l) (asL (k + 1) l)).length ≤ _
    obtain ⟨h1, h2⟩ := pick_le (bestL k l) (asL (k + 1) l)
    by_cases e : way = k + 1
    · rw [e]; exact h2
    · exact Nat.le_trans h1 (ih way (by omega))
end Col
end Go.Proofs.Ytplmafbdalkopaa
