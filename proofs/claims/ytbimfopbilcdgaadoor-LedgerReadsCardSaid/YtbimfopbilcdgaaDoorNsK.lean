/-
  Layer ledger: View as the document says; awake.
-/
import Derived.Test.YtbimfopbilcdgaaDoorNqK
import Derived.Test.YtbimfopbilcdgaaDoorNoK
set_option linter.unusedSimpArgs false
set_option linter.unusedVariables false
set_option maxRecDepth 8000
namespace Go.Proofs.YtbimfopbilcdgaaDoor
open Go.RowKit Go.Sort

theorem nodup_len {α : Type} [DecidableEq α] : ∀ (vs S : List α), vs.Nodup → (∀ x ∈ vs, x ∈ S) → vs.length ≤ S.length
  | [], S, _, _ => Nat.zero_le _
  | a :: r, S, h, hs => by
    obtain ⟨h1, h2⟩ := List.nodup_cons.1 h
    have ha : a ∈ S := hs a (by simp)
    have h3 := nodup_len r (S.erase a) h2 (fun x hx => (List.mem_erase_of_ne (fun e => h1 (by rw [← e]; exact hx))).2 (hs x (by simp [hx])))
    have h4 := List.length_erase_of_mem ha
    have h5 : 0 < S.length := List.length_pos_of_mem ha
    rw [List.length_cons]
    omega
/-- The law's places. -/
def six : List Pl := [⟨{ data := #[97] }, 0, 5⟩, ⟨{ data := #[97] }, 1, 6⟩, ⟨{ data := #[97] }, 2, 7⟩, ⟨{ data := #[98] }, 0, 5⟩, ⟨{ data := #[98] }, 1, 6⟩, ⟨{ data := #[98] }, 2, 7⟩]
theorem actP_six (a : Acx) : actP a ∈ six := by
  unfold actP keyA six
  have h3 : a.w % 3 = 0 ∨ a.w % 3 = 1 ∨ a.w % 3 = 2 := by omega
  split <;> rcases h3 with h | h | h <;> rw [h] <;> simp
/-- Changes whose places are the law's. -/
def InSix (l : List Chg) : Prop := ∀ c ∈ l, c.p ∈ six
theorem InSix.append {l m : List Chg} (h : InSix l) (h2 : InSix m) : InSix (l ++ m) := fun c hc => by
  rcases List.mem_append.1 hc with h3 | h3
  · exact h c h3
  · exact h2 c h3
theorem inSix_12 {l : List Chg} (h : InSix l) (vs : List Pl) (hn : vs.Nodup) (hv : ∀ p ∈ vs, lastF l p ≠ none) : vs.length ≤ 12 := by
  have h1 := nodup_len vs six hn (fun p hp => by
    rcases hx : lastF l p with _ | x
    · exact absurd hx (hv p hp)
    · obtain ⟨c, hc, e⟩ := last_place l p x hx
      exact e ▸ h c hc)
  have : six.length = 6 := rfl
  omega
theorem OwnPw.len' {w : World} {B n cap : Nat} {A : Option Addr} {l : List Pw} (h : OwnPw w B A n cap l) : l.length = n := h.len.symm
theorem view_doc {S : Nat → Prop} (g : Nat) (l : List Chg) (W : World) (hL : LedE S W g l) (hlen : l.length ≤ 900) (hs : InSix l) : Calls Tryd.prog 8 #[.pointer (some ⟨g, 0, none⟩)] W (RvEnd W (rvL l)) := by
  have hok : ∀ c ∈ l, c.Ok := by obtain ⟨A, n, cap, mv, M, h⟩ := hL; exact h.ok
  refine (view_any g l W hL hlen (fun vs h1 h2 => inSix_12 hs vs h1 h2)).mono ?_
  rintro e w' ⟨A, n, cap, vs, rfl, ho, hm, hn, hb⟩
  rw [view_eq l hok vs hm hn] at ho
  have hl := ho.len
  subst hl
  exact ⟨A, cap, rfl, ho, hb⟩
set_option maxHeartbeats 400000 in
theorem view_nil (W : World) : Calls Tryd.prog 8 #[.pointer none] W fun e w' => e = .returned (.slice none 0 0) ∧ w' = W := by
  go_enter Tryd.func8, Tryd.ntmps8
  go_wp2
  go_ret
  exact ⟨rfl, rfl⟩
def pA : Pl := ⟨{ data := #[97] }, 0, 5⟩
def tA : Tel := ⟨1, 0, false, 0, 0⟩
def cA0 : Chg := ⟨true, 0, pA, tA⟩
def cA1 : Chg := ⟨false, 0, pA, tA⟩
def cA2 : Chg := ⟨true, 1, pA, tA⟩
theorem acc_awake : accB [] [cA0, cA1, cA2] = true := by
  have h0 : okN [] cA0 = true := rfl
  have e1 : (lastF [cA0] pA).getD p0 = ⟨true, 0, tA⟩ := by show (upd Fn0 pA (stepA cA0) pA).getD p0 = _; unfold upd; rw [if_pos rfl]; rfl
  have h1 : okN [cA0] cA1 = true := by unfold okN; show mayB ((lastF [cA0] pA).getD p0) cA1 = true; rw [e1]; unfold mayB; rw [show telB cA1.t (Pn.mk true 0 tA).t = true from telB_self tA]; rfl
  have e2 : (lastF [cA0, cA1] pA).getD p0 = ⟨false, 1, t0⟩ := by show (upd (upd Fn0 pA (stepA cA0)) pA (stepA cA1) pA).getD p0 = _; unfold upd; rw [if_pos rfl]; rfl
  have h2 : okN [cA0, cA1] cA2 = true := by unfold okN; show mayB ((lastF [cA0, cA1] pA).getD p0) cA2 = true; rw [e2]; rfl
  show (okN [] cA0 && (okN [cA0] cA1 && (okN [cA0, cA1] cA2 && true))) = true
  rw [h0, h1, h2]; rfl
theorem view_awake : (rvL [cA0, cA1, cA2]).length = 1 := by
  have e1 : rvL [cA0] = [cA0.pw] := rfl
  have e2 : rvL [cA0, cA1] = [] := by
    have h := rvL_snoc [cA0] cA1
    rw [show [cA0, cA1] = [cA0] ++ [cA1] from rfl, h, e1, insP_not _ _ rfl, oth_cons]
    rw [if_pos (show cA0.pw.p = cA1.p from rfl)]; rfl
  rw [show [cA0, cA1, cA2] = [cA0, cA1] ++ [cA2] from rfl, rvL_snoc, e2]; rfl
theorem pA_ok : pA.Ok := ⟨by show 1 ≤ maxLen; unfold maxLen; decide, by decide, by decide⟩
theorem tA_ok : tA.Ok := ⟨by decide, by decide, by decide, by decide⟩
theorem cA_ok : ∀ c ∈ [cA0, cA1, cA2], c.Ok := fun c hc => by
  simp only [List.mem_cons, List.not_mem_nil, or_false] at hc
  rcases hc with rfl | rfl | rfl <;> exact ⟨by show 1 ≤ 1000; decide, by decide, pA_ok, tA_ok⟩
theorem cA_six : InSix [cA0, cA1, cA2] := fun c hc => by
  simp only [List.mem_cons, List.not_mem_nil, or_false] at hc
  rcases hc with rfl | rfl | rfl <;> (show pA ∈ six; unfold six pA; simp)
theorem chAt_new' (w : World) (g : Nat) (l : List Chg) (cs : Array Value) (hcs : cs.toList = chs l) (T : TypeId) (hg : g = w.heap.size) : ChAt (w.alloc (.cells cs T)) (some ⟨g, 0, none⟩) l := by subst hg; exact chAt_new w l cs hcs T
/-- A ledger's blocks behind a call. -/
def Sx (S : Nat → Prop) (W w' : World) : Nat → Prop := fun k => S k ∨ (W.heap.size ≤ k ∧ k < w'.heap.size)
theorem add_ok {S : Nat → Prop} (g : Nat) (l0 : List Chg) (a : Option Addr) (n c : Nat) (more : List Chg) (hn : n = more.length) (hlen : l0.length + n ≤ 900) (hs : SlC a n c) (hok : ∀ x ∈ more, x.Ok) (W : World) (H : Hid (ChAt W a more)) (hL : LedE S W g l0) (hacc : accB l0 more = true) :
    Calls Tryd.prog 7 #[.pointer (some ⟨g, 0, none⟩), .slice a n c] W fun e w' => e = .returned (.int .i64 0) ∧ Kept S W w' ∧ LedE (Sx S W w') w' g (l0 ++ more) := by
  refine (add_any g l0 a n c more hn hlen hs hok W H hL).mono ?_
  rintro e w' ⟨hk, ⟨rfl, h, -⟩ | ⟨rfl, -, hl⟩⟩
  · rw [hacc] at h; cases h
  · exact ⟨rfl, hk, hl⟩
theorem add_no {S : Nat → Prop} (g : Nat) (l0 : List Chg) (a : Option Addr) (n c : Nat) (more : List Chg) (hn : n = more.length) (hlen : l0.length + n ≤ 900) (hs : SlC a n c) (hok : ∀ x ∈ more, x.Ok) (W : World) (H : Hid (ChAt W a more)) (hL : LedE S W g l0) (hacc : accB l0 more = false) :
    Calls Tryd.prog 7 #[.pointer (some ⟨g, 0, none⟩), .slice a n c] W fun e w' => e = .returned (.int .i64 7) ∧ Kept S W w' ∧ LedE S w' g l0 := by
  refine (add_any g l0 a n c more hn hlen hs hok W H hL).mono ?_
  rintro e w' ⟨hk, ⟨rfl, h, hl⟩ | ⟨rfl, h, -⟩⟩
  · exact ⟨rfl, hk, hl⟩
  · rw [hacc] at h; cases h
theorem slC_new (g n c : Nat) (h : n ≤ c) (hc : c ≤ maxLen) : SlC (some ⟨g, 0, none⟩) n c := ⟨(fun h => by cases h), h, (fun x hx => ⟨g, 0, by injection hx with hx; exact hx.symm⟩), hc⟩
theorem OwnCh.slC {w : World} {B n cap : Nat} {A : Option Addr} {l : List Chg} (h : OwnCh w B A n cap l) : SlC A n cap := by
  obtain ⟨A1, c1, e, h1, h2, h3⟩ := ch_roslice h
  injection e with e1 e2 e3
  subst e1; subst e3
  refine ⟨h3, h1, fun x hx => ?_, h2⟩
  rcases ch_roaddr h with e | ⟨g, e⟩
  · rw [e] at hx; cases hx
  · rw [e] at hx; injection hx with hx; exact ⟨g, 0, hx.symm⟩
set_option maxHeartbeats 2000000 in
theorem lawake_any (W : World) : Calls Tryd.prog 4 #[] W fun e w' => e = .returned (.bool true) ∧ Below W.heap.size W w' := by
  have HOP := Lib.hid (onePw ⟨pA, tA⟩)
  go_enter Tryd.func4, Tryd.ntmps4
  go_wp2_with (first
    | (refine wpList_store_fresh rfl 40 (.tmp 2) (.tmp 5) rfl _ _ _ _ rfl (by simp) rfl iPw rfl HOP.out ?_)
    | (go_at_call 7; refine (add_ok (S := fun k => k = W.heap.size) W.heap.size [] _ 3 3 [cA0, cA1, cA2] rfl (by decide) (slC_new _ 3 3 (Nat.le_refl _) (by unfold maxLen; decide)) cA_ok _ (Lib.hid (chAt_new' _ _ [cA0, cA1, cA2] _ rfl _ (by simp))) ((led_new W _ rfl).below (((Below.refl _ _).alloc (Nat.le_refl _) _).alloc (by simp) _)) acc_awake).mono ?_; rintro e w4 ⟨rfl, hk4, hl4⟩; have HL4 := Lib.hid hl4; have HB4 : Hid (Below W.heap.size W w4) := Lib.hid (((((Below.refl W.heap.size W).alloc (Nat.le_refl _) _).alloc (by simp) _).alloc (by simp; omega) _).trans (hk4.below (by simp; omega) (fun k hk => by omega))); clear hk4 hl4)
    | (go_at_call 8; refine (view_doc W.heap.size ([] ++ [cA0, cA1, cA2]) _ HL4.out (by decide) cA_six).mono ?_; rintro e w5 ⟨A5, c5, rfl, ho5, hb5⟩; have HL5 := Lib.hid (HL4.out.below hb5); have HB5 := Lib.hid (bto HB4.out hb5); have hv1 : (rvL ([] ++ [cA0, cA1, cA2])).length = 1 := view_awake; rw [hv1]; clear ho5 hb5)
    | (go_at_call 9; refine (len_any W.heap.size ([] ++ [cA0, cA1, cA2]) _ HL5.out (by decide)).mono ?_; rintro e w6 ⟨rfl, rfl⟩))
  go_ret
  exact ⟨rfl, HB5.out⟩
end Go.Proofs.YtbimfopbilcdgaaDoor
