/-
  Layer segment: the chunks that a scan reads are those that the document counts: plain.
-/
import Derived.Test.YtifabkbdiiolfaaGreatDoorYzwK
set_option linter.unusedSimpArgs false
set_option linter.unusedVariables false
set_option maxRecDepth 8000
namespace Go.Proofs.YtifabkbdiiolfaaGreatDoor
open Go.RowKit Go.WideShapes Col
theorem may_cnt {p : Int} {M : List Ev} (hck : chkL p none M = 0) (fa fb : Nat) (fx fy : Int) (k : Nat) (c : Ck) (hc : (segCk M)[k]? = some c) : mayB fa fb fx fy c = cntB fa fb fx fy (pcs M k) := by
 obtain ⟨hk, hr, hst, hin⟩ := seg_in hck k c hc
 have h64 : 64 * k < M.length := by unfold segN at hk; omega
 obtain ⟨a, ha⟩ : ∃ a, M[0]? = some a := ⟨_, List.getElem?_eq_getElem (by omega)⟩
 obtain ⟨-, hc2⟩ := wrS_get M (segN M) k c hc
 obtain ⟨e1, e2, e3, e4, e5⟩ := segCk_facts hck ha k hk (ahead M k)
 rw [← hc2] at e1 e2 e3 e4
 have hf := lnC_facts (len := M.length) (j := k) (by omega)
 have hlp := pcs_len (l := M) (j := k) (by omega)
 obtain ⟨⟨x1, hx1, ht1⟩, ⟨x2, hx2, ht2⟩, -, -⟩ := ckOf_of (fun t => ∃ x ∈ pcs M k, x.time = t) (fun _ => True) (pcs M k) (by omega) (ahead M k) (fun x hx => ⟨⟨x, hx, rfl⟩, trivial⟩)
 rw [← hc2] at ht1 ht2
 have hall := ckOf_all (pcs M k) (ahead M k)
 rw [← hc2] at hall
 have hoff : ∀ x ∈ pcs M k, c.oa ≤ x.off ∧ x.off ≤ c.ob := fun x hx => by
  obtain ⟨j, hj⟩ := List.getElem?_of_mem hx
  obtain ⟨h1, h2⟩ := pcs_get hst hj
  have := chk_off0 hck ha _ _ h2
  omega
 have hatt : ∀ o, c.oa ≤ o → o ≤ c.ob → ∃ x ∈ pcs M k, x.off = o := fun o h1 h2 => by
  obtain ⟨x, hx⟩ : ∃ x, (pcs M k)[o - c.oa]? = some x := ⟨_, List.getElem?_eq_getElem (by omega)⟩
  obtain ⟨h3, h4⟩ := pcs_get hst hx
  have := chk_off0 hck ha _ _ h4
  exact ⟨x, List.mem_of_getElem? hx, by omega⟩
 rw [Bool.eq_iff_iff]
 unfold mayB cntB offIn lowIn highIn
 simp only [Bool.and_eq_true, decide_eq_true_eq, List.any_eq_true]
 have hmx : ∀ u v : Int, (u ≤ maxI u v ∧ v ≤ maxI u v) ∧ (maxI u v = u ∨ maxI u v = v) := fun u v => ⟨maxI_le u v, maxI_or u v⟩
 have hmn : ∀ u v : Int, (minI u v ≤ u ∧ minI u v ≤ v) ∧ (minI u v = u ∨ minI u v = v) := fun u v => ⟨minI_le u v, minI_or u v⟩
 have m1 := hmx (fa : Int) (c.oa : Int)
 have m2 := hmx fx c.ta
 have m3 := hmn fy c.tz
 generalize maxI (fa : Int) (c.oa : Int) = q1 at *
 generalize maxI fx c.ta = q2 at *
 generalize minI fy c.tz = q3 at *
 constructor
 ·rintro ⟨h1, h2, h3⟩
  obtain ⟨x, hx, ho⟩ := hatt q1.toNat (by omega) (by omega)
  exact ⟨⟨x, hx, by omega, by omega⟩, ⟨x1, hx1, by omega⟩, ⟨x2, hx2, by omega⟩, by omega⟩
 ·rintro ⟨⟨x, hx, h1, h2⟩, ⟨y, hy, h3⟩, ⟨z, hz, h4⟩, h5⟩
  have o1 := hoff x hx
  have t1 := hall y hy
  have t2 := hall z hz
  exact ⟨by omega, by omega, by omega⟩
theorem wN_scN {p : Int} {M : List Ev} (hck : chkL p none M = 0) (fa fb : Nat) (fx fy : Int) : ∀ k, k ≤ segN M → wN fa fb fx fy M k = scN fa fb fx fy M k
 | 0, _ => by simp [wN, scN]
 | k + 1, h => by
  obtain ⟨c, hc⟩ : ∃ c, (segCk M)[k]? = some c := ⟨_, List.getElem?_eq_getElem (by rw [segCk_len]; omega)⟩
  rw [scN_succ _ _ _ _ hc, may_cnt hck fa fb fx fy k c hc, ← wN_scN hck fa fb fx fy k (by omega)]
  rfl
end Go.Proofs.YtifabkbdiiolfaaGreatDoor
