/-
  Layer segment: what was written is opened: plain.
-/
import Derived.Test.YtifabkbdiiolfaaDoorYuK
import Derived.Test.YtifabkbdiiolfaaDoorYkK
import Derived.Test.YtifabkbdiiolfaaDoorGzK
set_option linter.unusedSimpArgs false
set_option linter.unusedVariables false
set_option maxRecDepth 8000
namespace Go.Proofs.YtifabkbdiiolfaaDoor
open Go.RowKit Go.WideShapes Col
theorem chk_cons {p : Int} {o : Option Nat} {x : Ev} {r : List Ev} (h : chkL p o (x :: r) = 0) : formB x p = true ∧ (∀ y, o = some y → x.off = y + 1) ∧ chkL p (some x.off) r = 0 := by
 unfold chkL at h
 split at h
 ·rename_i hf
  refine ⟨hf, ?_⟩
  rcases o with _ | y
  ·exact ⟨(fun y hy => by cases hy), h⟩
  ·dsimp only at h
   split at h
   ·rename_i hy
    exact ⟨fun z hz => by injection hz with hz; omega, h⟩
   ·cases h
 ·cases h
/-- Offsets that follow one another. -/
theorem chk_offs {p : Int} : ∀ (l : List Ev) (y : Nat), chkL p (some y) l = 0 → ∀ i x, l[i]? = some x → x.off = y + 1 + i
 | [], _, _, i, x, hx => by simp at hx
 | a :: r, y, h, i, x, hx => by
  obtain ⟨-, h2, h3⟩ := chk_cons h
  have h2 := h2 y rfl
  rcases i with _ | i
  ·have : a = x := by simpa using hx
   subst this; omega
  ·have := chk_offs r a.off h3 i x (by simpa using hx)
   omega
theorem chk_off0 {p : Int} {l : List Ev} {a : Ev} (h : chkL p none l = 0) (ha : l[0]? = some a) : ∀ i x, l[i]? = some x → x.off = a.off + i := fun i x hx => by
 rcases l with _ | ⟨b, r⟩
 ·simp at hx
 ·have hb : b = a := by simpa using ha
  subst hb
  obtain ⟨-, -, h3⟩ := chk_cons h
  rcases i with _ | i
  ·have : b = x := by simpa using hx
   subst this; omega
  ·have := chk_offs r b.off h3 i x (by simpa using hx)
   omega
theorem chk_form {p : Int} : ∀ (l : List Ev) (o : Option Nat), chkL p o l = 0 → ∀ x ∈ l, formB x p = true
 | [], _, _, x, hx => by cases hx
 | a :: r, o, h, x, hx => by
  obtain ⟨h1, -, h3⟩ := chk_cons h
  rcases List.mem_cons.1 hx with e | e
  ·subst e; exact h1
  ·exact chk_form r _ h3 x e
/-- How many bytes there are ahead of the k-th chunk. -/
def ahead (l : List Ev) (k : Nat) : Nat := (wrS l (chP k)).1.length
theorem wrS_get (l : List Ev) (n : Nat) : ∀ k c, (wrS l (chP n)).2[k]? = some c → k < n ∧ c = ckOf (pcs l k) (ahead l k) := by
 induction n with
 | zero => intro k c h; simp [chP, wrS] at h
 | succ n ih =>
  intro k c h
  rw [chP_succ, wrS_snoc] at h
  have hl : (wrS l (chP n)).2.length = n := by
   clear h ih
   induction n with
   | zero => simp [chP, wrS]
   | succ n ih => rw [chP_succ, wrS_snoc, List.length_append, ih]; rfl
  rcases Nat.lt_or_ge k n with h1 | h1
  ·rw [List.getElem?_append_left (by omega)] at h
   have := ih k c h
   exact ⟨by omega, this.2⟩
  ·have hk : k = n := by
    have := (List.getElem?_eq_some_iff.1 h).1
    rw [List.length_append, hl, List.length_singleton] at this
    omega
   subst hk
   rw [List.getElem?_append_right (by omega), hl] at h
   refine ⟨by omega, ?_⟩
   simpa [ahead, eq_comm] using h
theorem ahead_succ (l : List Ev) (k : Nat) : ahead l (k + 1) = ahead l k + (9 + (evY (pcs l k)).length) := by
 unfold ahead
 rw [chP_succ, wrS_snoc]
 show ((wrS l (chP k)).1 ++ pgE (pcs l k)).length = _
 rw [List.length_append]
 unfold pgE
 rw [Pg.lay_len]
theorem ahead_lt (l : List Ev) : ∀ {j k : Nat}, j < k → ahead l j < ahead l k := by
 intro j k h
 induction k with
 | zero => omega
 | succ k ih =>
  have h1 := ahead_succ l k
  rcases Nat.lt_or_ge j k with h2 | h2
  ·have := ih h2; omega
  ·have : j = k := by omega
   subst this; omega
theorem segCk_len (l : List Ev) : (segCk l).length = segN l := by
 unfold segCk
 generalize segN l = n
 induction n with
 | zero => simp [chP, wrS]
 | succ n ih => rw [chP_succ, wrS_snoc, List.length_append, ih]; rfl
/-- The k-th chunk: its events, their offsets. -/
theorem segCk_facts {p : Int} {l : List Ev} {a : Ev} (hck : chkL p none l = 0) (ha : l[0]? = some a) (k : Nat) (hk : k < segN l) (pl : Nat) :
  (ckOf (pcs l k) pl).rows = lnC l.length k ∧ (ckOf (pcs l k) pl).pl = pl ∧ (ckOf (pcs l k) pl).oa = a.off + 64 * k ∧ (ckOf (pcs l k) pl).ob = a.off + 64 * k + (lnC l.length k - 1) ∧ stC l.length k = 64 * k := by
 have h0 : 0 < l.length := (List.getElem?_eq_some_iff.1 ha).1
 have h64 : 64 * k < l.length := by unfold segN at hk; omega
 have hst : stC l.length k = 64 * k := by unfold stC; rw [if_pos h64]
 have hf := lnC_facts (len := l.length) (j := k) h0
 have hlen := pcs_len (l := l) (j := k) h0
 obtain ⟨m, hm⟩ : ∃ m, lnC l.length k = m + 1 := ⟨lnC l.length k - 1, by omega⟩
 have get : ∀ i, i < lnC l.length k → (pcs l k)[i]? = l[64 * k + i]? := fun i hi => by
  unfold pcs
  rw [List.getElem?_take, if_pos hi, List.getElem?_drop, hst]
 obtain ⟨x, hx⟩ : ∃ x, l[64 * k]? = some x := ⟨_, List.getElem?_eq_getElem h64⟩
 obtain ⟨z, hz⟩ : ∃ z, l[64 * k + m]? = some z := ⟨_, List.getElem?_eq_getElem (by omega)⟩
 obtain ⟨e1, e2, e3, e4⟩ := ckOf_facts (pcs l k) x z m pl (by rw [get 0 (by omega)]; exact hx) (by omega) (by rw [get m (by omega)]; exact hz)
 have o1 := chk_off0 hck ha _ _ hx
 have o2 := chk_off0 hck ha _ _ hz
 exact ⟨by omega, e2, by omega, by omega, hst⟩
theorem foll_of : ∀ (l m : List Ck), (∀ k c, l[k]? = some c → flw (m ++ l.take k) c = true) → Foll m l
 | [], _, _ => trivial
 | c :: r, m, h => ⟨by have := h 0 c rfl; simpa using this, foll_of r (m ++ [c]) fun k d hd => by
   have := h (k + 1) d (by simpa using hd)
   simpa [List.append_assoc] using this⟩
theorem segB_opens (p : Nat) (hp1 : 1 ≤ p) (hp : p ≤ 8) (l : List Ev) (h0 : 0 < l.length) (hn9 : l.length ≤ 1024) (hck : chkL (p : Int) none l = 0) (hfin : ∀ x ∈ l, FineE x) (hb : ∀ x ∈ segB p l, x < 256) :
  openP (segB p l) = some ((p, segCk l), (segPg l).length) := by
 obtain ⟨a, ha⟩ : ∃ a, l[0]? = some a := ⟨_, List.getElem?_eq_getElem h0⟩
 have hN : segN l ≤ 16 := by unfold segN; omega
 have hN1 : 1 ≤ segN l := by unfold segN; omega
 have hlen := wrS_len l h0 hfin (chP (segN l))
 rw [chP_len] at hlen
 obtain ⟨at', hat⟩ : ∃ n, n = (segPg l).length := ⟨_, rfl⟩
 have hat9 : at' ≤ 9281 * 16 := by rw [hat]; have : (segPg l).length ≤ 9281 * segN l := hlen.1; omega
 have hok : ∀ x ∈ segCk l, CkOk x := wrS_ok l h0 hfin _ (by rw [chP_len]; omega)
 have hahead : ahead l (segN l) = at' := hat.symm
 obtain ⟨FB, hFB⟩ : ∃ FB, FB = footB p (segCk l) := ⟨_, rfl⟩
 have hfl : FB.length ≤ 3000 := by
  have h1 := cksB_len hok
  have h2 := segCk_len l
  have h3 := nsB_len (ns := [p, (segCk l).length]) (fun x hx => by simp only [List.mem_cons, List.not_mem_nil, or_false] at hx; omega)
  have h4 : [p, (segCk l).length].length = 2 := rfl
  rw [hFB]
  unfold footB
  rw [List.length_append]
  omega
 have hin : ∀ x ∈ segCk l, CkIn at' x := fun x hx => by
  obtain ⟨k, hk⟩ := List.getElem?_of_mem hx
  obtain ⟨hkn, hxe⟩ := wrS_get l (segN l) k x hk
  obtain ⟨e1, e2, e3, e4, -⟩ := segCk_facts hck ha k hkn (ahead l k)
  have hf := lnC_facts (len := l.length) (j := k) h0
  have hlt := ahead_lt l hkn
  obtain ⟨z, hz⟩ : ∃ z, l[64 * k + (lnC l.length k - 1)]? = some z := ⟨_, List.getElem?_eq_getElem (by have := segCk_facts hck ha k hkn 0; omega)⟩
  have hzo := chk_off0 hck ha _ _ hz
  have hzf := (hfin z (List.mem_of_getElem? hz)).off
  rw [← hxe] at e1 e2 e3 e4
  refine ⟨hok x hx, by omega, by omega, by omega, by omega, ?_⟩
  unfold ckG
  rw [decide_eq_true (show 1 ≤ x.rows by omega), decide_eq_true (show x.ob = x.oa + (x.rows - 1) by omega), decide_eq_true (show x.pl < at' by omega)]
  rfl
 have hfo : Foll [] (segCk l) := foll_of _ _ fun k c hk => by
  obtain ⟨hkn, hce⟩ := wrS_get l (segN l) k c hk
  obtain ⟨e1, e2, e3, e4, -⟩ := segCk_facts hck ha k hkn (ahead l k)
  rw [← hce] at e1 e2 e3 e4
  rw [List.nil_append]
  have hkl : k < (segCk l).length := (List.getElem?_eq_some_iff.1 hk).1
  rcases k with _ | j
  ·rw [flw_none (n := 0) (by simp) rfl]
   have : ahead l 0 = 0 := rfl
   rw [decide_eq_true (by omega)]
  ·obtain ⟨y, hy⟩ : ∃ y, (segCk l)[j]? = some y := ⟨_, List.getElem?_eq_getElem (by omega)⟩
   obtain ⟨hjn, hye⟩ := wrS_get l (segN l) j y hy
   obtain ⟨g1, g2, g3, g4, g5⟩ := segCk_facts hck ha j hjn (ahead l j)
   rw [← hye] at g1 g2 g3 g4
   rw [flw_some (n := j + 1) (q := j) (x := y) (by rw [List.length_take]; omega) rfl (by rw [List.getElem?_take, if_pos (by omega)]; exact hy)]
   have hlt := ahead_lt l (show j < j + 1 by omega)
   have h64 : lnC l.length j = 64 := by
    unfold lnC
    rw [g5]
    unfold segN at hkn
    omega
   rw [decide_eq_true (show y.pl < c.pl by omega), decide_eq_true (show c.oa = y.ob + 1 by omega)]
   rfl
 have hfp : footP at' FB = some ((p, segCk l), []) := by
  rw [hFB]
  exact footP_back hp1 hp (by rw [segCk_len]; omega) (by rw [segCk_len]; omega) hin hfo
 have hseg : segB p l = segPg l ++ (Pg.lay 102 FB ++ Pg.lay 116 (Pg.four at')) := by unfold segB; rw [hFB, hat, List.append_assoc]
 have hFBl : ∀ x ∈ FB, x < 256 := fun x hx => hb x (by
  rw [hseg]
  refine List.mem_append_right _ (List.mem_append_left _ ?_)
  unfold Pg.lay Pg.front
  simp [hx])
 have hl4 : (Pg.four at').length = 4 := rfl
 have hll : (Pg.lay 116 (Pg.four at')).length = 13 := by rw [Pg.lay_len]; rfl
 have hlen2 : (segB p l).length = at' + (9 + FB.length) + 13 := by rw [hseg, List.length_append, List.length_append, hll, Pg.lay_len, ← hat]; omega
 have hlast : lastP (segB p l) = Pg.lay 116 (Pg.four at') := by
  unfold lastP
  rw [hlen2, hseg, ← List.append_assoc, show at' + (9 + FB.length) + 13 - 13 = (segPg l ++ Pg.lay 102 FB).length by rw [List.length_append, Pg.lay_len, ← hat]; omega, List.drop_left]
 obtain ⟨r1, r2, r3, r4⟩ := Pg.read_lay [] 116 (Pg.four at') [] 0 rfl (by decide) (Pg.four_lt at') (by rw [hl4]; omega)
 rw [List.append_nil, List.nil_append] at r1 r2 r3 r4
 have ho : Pg.oneErr (Pg.lay 116 (Pg.four at')) 116 = 0 := by
  unfold Pg.oneErr
  rw [if_neg (by rw [r1]; exact fun h => h rfl), if_pos ⟨r2, by rw [r4, hll, hl4]; rfl⟩]
 have hbo : Pg.oneBody (Pg.lay 116 (Pg.four at')) 116 = Pg.four at' := by unfold Pg.oneBody; rw [if_pos ho, r3]
 have hft : ftOf (segB p l) = at' := by unfold ftOf; rw [hlast, hbo]; exact Pg.val_four at' (by omega)
 obtain ⟨s1, s2, s3, s4⟩ := Pg.read_lay (segPg l) 102 FB (Pg.lay 116 (Pg.four at')) (at' : Int) (by rw [hat]) (by decide) hFBl (by omega)
 rw [← hseg] at s1 s2 s3 s4
 unfold openP
 rw [if_neg (by omega), hlast, if_neg (fun h => h ho), hft, if_neg (by omega), if_neg (fun h => h s1), if_pos ⟨s2, by rw [s4, hlen2]; omega⟩]
 unfold bodyS
 rw [s3, hfp, hat]
theorem segB_len (p : Nat) (hp : p ≤ 8) (l : List Ev) (h0 : 0 < l.length) (hn9 : l.length ≤ 1024) (hfin : ∀ x ∈ l, FineE x) : (segB p l).length ≤ 1000000 := by
 have hN : segN l ≤ 16 := by unfold segN; omega
 have hlen := wrS_len l h0 hfin (chP (segN l))
 rw [chP_len] at hlen
 have hok : ∀ x ∈ segCk l, CkOk x := wrS_ok l h0 hfin _ (by rw [chP_len]; omega)
 have h1 := cksB_len hok
 have h2 := segCk_len l
 have h3 := nsB_len (ns := [p, (segCk l).length]) (fun x hx => by simp only [List.mem_cons, List.not_mem_nil, or_false] at hx; omega)
 have h4 : [p, (segCk l).length].length = 2 := rfl
 have h5 : (segPg l).length ≤ 9281 * segN l := hlen.1
 have h6 : (Pg.four (segPg l).length).length = 4 := rfl
 unfold segB
 rw [List.length_append, List.length_append, Pg.lay_len, Pg.lay_len, h6]
 unfold footB
 rw [List.length_append]
 omega
end Go.Proofs.YtifabkbdiiolfaaDoor
