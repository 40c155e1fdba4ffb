/-
  Layer segment: Chunks; nil segments; the document's example.
-/
import Derived.Test.YtifabkbdiiolfaaGreatDoorYuK
import Derived.Test.YtifabkbdiiolfaaGreatDoorYkK
import Derived.Test.YtifabkbdiiolfaaGreatDoorGnK
import Derived.Test.YtifabkbdiiolfaaGreatDoorYpK
set_option linter.unusedSimpArgs false
set_option linter.unusedVariables false
set_option maxRecDepth 8000
namespace Go.Proofs.YtifabkbdiiolfaaGreatDoor
open Go.RowKit Go.WideShapes Col
theorem chk_cons {p : Int} {o : Option Nat} {x : Ev} {r : List Ev} (h : chkL p o (x :: r) = 0) : formB x p = true ∧ (∀ y, o = some y → x.off = y + 1) ∧ chkL p (some x.off) r = 0 := by
 unfold chkL at h
 split at h
 ·rename_i hf
  refine ⟨hf, ?_⟩
  rcases o with _ | y
  ·exact ⟨(fun y hy => by cases hy), h⟩
  ·dsimp only at h
   split at h
   ·rename_i hy
    exact ⟨fun z hz => by injection hz with hz; omega, h⟩
   ·cases h
 ·cases h
/-- Offsets that follow one another. -/
theorem chk_offs {p : Int} : ∀ (l : List Ev) (y : Nat), chkL p (some y) l = 0 → ∀ i x, l[i]? = some x → x.off = y + 1 + i
 | [], _, _, i, x, hx => by simp at hx
 | a :: r, y, h, i, x, hx => by
  obtain ⟨-, h2, h3⟩ := chk_cons h
  have h2 := h2 y rfl
  rcases i with _ | i
  ·have : a = x := by simpa using hx
   subst this; omega
  ·have := chk_offs r a.off h3 i x (by simpa using hx)
   omega
theorem chk_off0 {p : Int} {l : List Ev} {a : Ev} (h : chkL p none l = 0) (ha : l[0]? = some a) : ∀ i x, l[i]? = some x → x.off = a.off + i := fun i x hx => by
 rcases l with _ | ⟨b, r⟩
 ·simp at hx
 ·have hb : b = a := by simpa using ha
  subst hb
  obtain ⟨-, -, h3⟩ := chk_cons h
  rcases i with _ | i
  ·have : b = x := by simpa using hx
   subst this; omega
  ·have := chk_offs r b.off h3 i x (by simpa using hx)
   omega
theorem chk_form {p : Int} : ∀ (l : List Ev) (o : Option Nat), chkL p o l = 0 → ∀ x ∈ l, formB x p = true
 | [], _, _, x, hx => by cases hx
 | a :: r, o, h, x, hx => by
  obtain ⟨h1, -, h3⟩ := chk_cons h
  rcases List.mem_cons.1 hx with e | e
  ·subst e; exact h1
  ·exact chk_form r _ h3 x e
/-- How many bytes there are ahead of the k-th chunk. -/
def ahead (l : List Ev) (k : Nat) : Nat := (wrS l (chP k)).1.length
theorem wrS_get (l : List Ev) (n : Nat) : ∀ k c, (wrS l (chP n)).2[k]? = some c → k < n ∧ c = ckOf (pcs l k) (ahead l k) := by
 induction n with
 | zero => intro k c h; simp [chP, wrS] at h
 | succ n ih =>
  intro k c h
  rw [chP_succ, wrS_snoc] at h
  have hl : (wrS l (chP n)).2.length = n := by
   clear h ih
   induction n with
   | zero => simp [chP, wrS]
   | succ n ih => rw [chP_succ, wrS_snoc, List.length_append, ih]; rfl
  rcases Nat.lt_or_ge k n with h1 | h1
  ·rw [List.getElem?_append_left (by omega)] at h
   have := ih k c h
   exact ⟨by omega, this.2⟩
  ·have hk : k = n := by
    have := (List.getElem?_eq_some_iff.1 h).1
    rw [List.length_append, hl, List.length_singleton] at this
    omega
   subst hk
   rw [List.getElem?_append_right (by omega), hl] at h
   refine ⟨by omega, ?_⟩
   simpa [ahead, eq_comm] using h
theorem ahead_succ (l : List Ev) (k : Nat) : ahead l (k + 1) = ahead l k + (9 + (evY (pcs l k)).length) := by
 unfold ahead
 rw [chP_succ, wrS_snoc]
 show ((wrS l (chP k)).1 ++ pgE (pcs l k)).length = _
 rw [List.length_append]
 unfold pgE
 rw [Pg.lay_len]
theorem ahead_lt (l : List Ev) : ∀ {j k : Nat}, j < k → ahead l j < ahead l k := by
 intro j k h
 induction k with
 | zero => omega
 | succ k ih =>
  have h1 := ahead_succ l k
  rcases Nat.lt_or_ge j k with h2 | h2
  ·have := ih h2; omega
  ·have : j = k := by omega
   subst this; omega
theorem segCk_len (l : List Ev) : (segCk l).length = segN l := by
 unfold segCk
 generalize segN l = n
 induction n with
 | zero => simp [chP, wrS]
 | succ n ih => rw [chP_succ, wrS_snoc, List.length_append, ih]; rfl
/-- The k-th chunk: its events, their offsets. -/
theorem segCk_facts {p : Int} {l : List Ev} {a : Ev} (hck : chkL p none l = 0) (ha : l[0]? = some a) (k : Nat) (hk : k < segN l) (pl : Nat) :
  (ckOf (pcs l k) pl).rows = lnC l.length k ∧ (ckOf (pcs l k) pl).pl = pl ∧ (ckOf (pcs l k) pl).oa = a.off + 64 * k ∧ (ckOf (pcs l k) pl).ob = a.off + 64 * k + (lnC l.length k - 1) ∧ stC l.length k = 64 * k := by
 have h0 : 0 < l.length := (List.getElem?_eq_some_iff.1 ha).1
 have h64 : 64 * k < l.length := by unfold segN at hk; omega
 have hst : stC l.length k = 64 * k := by unfold stC; rw [if_pos h64]
 have hf := lnC_facts (len := l.length) (j := k) h0
 have hlen := pcs_len (l := l) (j := k) h0
 obtain ⟨m, hm⟩ : ∃ m, lnC l.length k = m + 1 := ⟨lnC l.length k - 1, by omega⟩
 have get : ∀ i, i < lnC l.length k → (pcs l k)[i]? = l[64 * k + i]? := fun i hi => by
  unfold pcs
  rw [List.getElem?_take, if_pos hi, List.getElem?_drop, hst]
 obtain ⟨x, hx⟩ : ∃ x, l[64 * k]? = some x := ⟨_, List.getElem?_eq_getElem h64⟩
 obtain ⟨z, hz⟩ : ∃ z, l[64 * k + m]? = some z := ⟨_, List.getElem?_eq_getElem (by omega)⟩
 obtain ⟨e1, e2, e3, e4⟩ := ckOf_facts (pcs l k) x z m pl (by rw [get 0 (by omega)]; exact hx) (by omega) (by rw [get m (by omega)]; exact hz)
 have o1 := chk_off0 hck ha _ _ hx
 have o2 := chk_off0 hck ha _ _ hz
 exact ⟨by omega, e2, by omega, by omega, hst⟩
theorem foll_of : ∀ (l m : List Ck), (∀ k c, l[k]? = some c → flw (m ++ l.take k) c = true) → Foll m l
 | [], _, _ => trivial
 | c :: r, m, h => ⟨by have := h 0 c rfl; simpa using this, foll_of r (m ++ [c]) fun k d hd => by
   have := h (k + 1) d (by simpa using hd)
   simpa [List.append_assoc] using this⟩
theorem segB_opens (p : Nat) (hp1 : 1 ≤ p) (hp : p ≤ 8) (l : List Ev) (h0 : 0 < l.length) (hn9 : l.length ≤ 1024) (hck : chkL (p : Int) none l = 0) (hfin : ∀ x ∈ l, FineE x) (hb : ∀ x ∈ segB p l, x < 256) :
  openP (segB p l) = some ((p, segCk l), (segPg l).length) := by
 obtain ⟨a, ha⟩ : ∃ a, l[0]? = some a := ⟨_, List.getElem?_eq_getElem h0⟩
 have hN : segN l ≤ 16 := by unfold segN; omega
 have hN1 : 1 ≤ segN l := by unfold segN; omega
 have hlen := wrS_len l h0 hfin (chP (segN l))
 rw [chP_len] at hlen
 obtain ⟨at', hat⟩ : ∃ n, n = (segPg l).length := ⟨_, rfl⟩
 have hat9 : at' ≤ 9281 * 16 := by rw [hat]; have : (segPg l).length ≤ 9281 * segN l := hlen.1; omega
 have hok : ∀ x ∈ segCk l, CkOk x := wrS_ok l h0 hfin _ (by rw [chP_len]; omega)
 have hahead : ahead l (segN l) = at' := hat.symm
 obtain ⟨FB, hFB⟩ : ∃ FB, FB = footB p (segCk l) := ⟨_, rfl⟩
 have hfl : FB.length ≤ 3000 := by
  have h1 := cksB_len hok
  have h2 := segCk_len l
  have h3 := nsB_len (ns := [p, (segCk l).length]) (fun x hx => by simp only [List.mem_cons, List.not_mem_nil, or_false] at hx; omega)
  have h4 : [p, (segCk l).length].length = 2 := rfl
  rw [hFB]
  unfold footB
  rw [List.length_append]
  omega
 have hin : ∀ x ∈ segCk l, CkIn at' x := fun x hx => by
  obtain ⟨k, hk⟩ := List.getElem?_of_mem hx
  obtain ⟨hkn, hxe⟩ := wrS_get l (segN l) k x hk
  obtain ⟨e1, e2, e3, e4, -⟩ := segCk_facts hck ha k hkn (ahead l k)
  have hf := lnC_facts (len := l.length) (j := k) h0
  have hlt := ahead_lt l hkn
  obtain ⟨z, hz⟩ : ∃ z, l[64 * k + (lnC l.length k - 1)]? = some z := ⟨_, List.getElem?_eq_getElem (by have := segCk_facts hck ha k hkn 0; omega)⟩
  have hzo := chk_off0 hck ha _ _ hz
  have hzf := (hfin z (List.mem_of_getElem? hz)).off
  rw [← hxe] at e1 e2 e3 e4
  refine ⟨hok x hx, by omega, by omega, by omega, by omega, ?_⟩
  unfold ckG
  rw [decide_eq_true (show 1 ≤ x.rows by omega), decide_eq_true (show x.ob = x.oa + (x.rows - 1) by omega), decide_eq_true (show x.pl < at' by omega)]
  rfl
 have hfo : Foll [] (segCk l) := foll_of _ _ fun k c hk => by
  obtain ⟨hkn, hce⟩ := wrS_get l (segN l) k c hk
  obtain ⟨e1, e2, e3, e4, -⟩ := segCk_facts hck ha k hkn (ahead l k)
  rw [← hce] at e1 e2 e3 e4
  rw [List.nil_append]
  have hkl : k < (segCk l).length := (List.getElem?_eq_some_iff.1 hk).1
  rcases k with _ | j
  ·rw [flw_none (n := 0) (by simp) rfl]
   have : ahead l 0 = 0 := rfl
   rw [decide_eq_true (by omega)]
  ·obtain ⟨y, hy⟩ : ∃ y, (segCk l)[j]? = some y := ⟨_, List.getElem?_eq_getElem (by omega)⟩
   obtain ⟨hjn, hye⟩ := wrS_get l (segN l) j y hy
   obtain ⟨g1, g2, g3, g4, g5⟩ := segCk_facts hck ha j hjn (ahead l j)
   rw [← hye] at g1 g2 g3 g4
   rw [flw_some (n := j + 1) (q := j) (x := y) (by rw [List.length_take]; omega) rfl (by rw [List.getElem?_take, if_pos (by omega)]; exact hy)]
   have hlt := ahead_lt l (show j < j + 1 by omega)
   have h64 : lnC l.length j = 64 := by
    unfold lnC
    rw [g5]
    unfold segN at hkn
    omega
   rw [decide_eq_true (show y.pl < c.pl by omega), decide_eq_true (show c.oa = y.ob + 1 by omega)]
   rfl
 have hfp : footP at' FB = some ((p, segCk l), []) := by
  rw [hFB]
  exact footP_back hp1 hp (by rw [segCk_len]; omega) (by rw [segCk_len]; omega) hin hfo
 have hseg : segB p l = segPg l ++ (Pg.lay 102 FB ++ Pg.lay 116 (Pg.four at')) := by unfold segB; rw [hFB, hat, List.append_assoc]
 have hFBl : ∀ x ∈ FB, x < 256 := fun x hx => hb x (by
  rw [hseg]
  refine List.mem_append_right _ (List.mem_append_left _ ?_)
  unfold Pg.lay Pg.front
  simp [hx])
 have hl4 : (Pg.four at').length = 4 := rfl
 have hll : (Pg.lay 116 (Pg.four at')).length = 13 := by rw [Pg.lay_len]; rfl
 have hlen2 : (segB p l).length = at' + (9 + FB.length) + 13 := by rw [hseg, List.length_append, List.length_append, hll, Pg.lay_len, ← hat]; omega
 have hlast : lastP (segB p l) = Pg.lay 116 (Pg.four at') := by
  unfold lastP
  rw [hlen2, hseg, ← List.append_assoc, show at' + (9 + FB.length) + 13 - 13 = (segPg l ++ Pg.lay 102 FB).length by rw [List.length_append, Pg.lay_len, ← hat]; omega, List.drop_left]
 obtain ⟨r1, r2, r3, r4⟩ := Pg.read_lay [] 116 (Pg.four at') [] 0 rfl (by decide) (Pg.four_lt at') (by rw [hl4]; omega)
 rw [List.append_nil, List.nil_append] at r1 r2 r3 r4
 have ho : Pg.oneErr (Pg.lay 116 (Pg.four at')) 116 = 0 := by
  unfold Pg.oneErr
  rw [if_neg (by rw [r1]; exact fun h => h rfl), if_pos ⟨r2, by rw [r4, hll, hl4]; rfl⟩]
 have hbo : Pg.oneBody (Pg.lay 116 (Pg.four at')) 116 = Pg.four at' := by unfold Pg.oneBody; rw [if_pos ho, r3]
 have hft : ftOf (segB p l) = at' := by unfold ftOf; rw [hlast, hbo]; exact Pg.val_four at' (by omega)
 obtain ⟨s1, s2, s3, s4⟩ := Pg.read_lay (segPg l) 102 FB (Pg.lay 116 (Pg.four at')) (at' : Int) (by rw [hat]) (by decide) hFBl (by omega)
 rw [← hseg] at s1 s2 s3 s4
 unfold openP
 rw [if_neg (by omega), hlast, if_neg (fun h => h ho), hft, if_neg (by omega), if_neg (fun h => h s1), if_pos ⟨s2, by rw [s4, hlen2]; omega⟩]
 unfold bodyS
 rw [s3, hfp, hat]
theorem segB_len (p : Nat) (hp : p ≤ 8) (l : List Ev) (h0 : 0 < l.length) (hn9 : l.length ≤ 1024) (hfin : ∀ x ∈ l, FineE x) : (segB p l).length ≤ 1000000 := by
 have hN : segN l ≤ 16 := by unfold segN; omega
 have hlen := wrS_len l h0 hfin (chP (segN l))
 rw [chP_len] at hlen
 have hok : ∀ x ∈ segCk l, CkOk x := wrS_ok l h0 hfin _ (by rw [chP_len]; omega)
 have h1 := cksB_len hok
 have h2 := segCk_len l
 have h3 := nsB_len (ns := [p, (segCk l).length]) (fun x hx => by simp only [List.mem_cons, List.not_mem_nil, or_false] at hx; omega)
 have h4 : [p, (segCk l).length].length = 2 := rfl
 have h5 : (segPg l).length ≤ 9281 * segN l := hlen.1
 have h6 : (Pg.four (segPg l).length).length = 4 := rfl
 unfold segB
 rw [List.length_append, List.length_append, Pg.lay_len, Pg.lay_len, h6]
 unfold footB
 rw [List.length_append]
 omega
end Go.Proofs.YtifabkbdiiolfaaGreatDoor

namespace Go.Proofs.YtifabkbdiiolfaaGreatDoor
open Go.RowKit Go.WideShapes Col
set_option maxHeartbeats 1000000 in
theorem cloneC_any (ad : Addr) (n c : Nat) (l : List Ck) (hn : Hid (n = l.length)) (hn9 : n ≤ 900) (w : World) (HC : Hid (CkAt w (some ad) l)) :
  Calls Tryz.prog 64 #[.slice (some ad) n c] w fun e w' => ∃ A' cap', e = .returned (.slice A' n cap') ∧ OwnC w' w.heap.size A' n cap' l ∧ Below w.heap.size w w' := by
 have q22 : ∀ (w : World) (a : Option Addr) (n c n' c' : Nat), (binOp .eql 74 (.slice a n c) (.slice none n' c')).run Tryz.prog w = .ok (.bool a.isNone) w := fun w a n c n' c' => Lib.run_eql_slice_nil w _ _ a n c n' c' Tryz.underlying74
 have HA1 : Hid (CkAt (w.alloc (.cells #[] 77)) (some ad) l) := Lib.hid (HC.out.keep ((Below.refl _ _).alloc (Nat.le_refl _) _))
 have HO : Hid (OwnC (w.alloc (.cells #[] 77)) w.heap.size (some ⟨w.heap.size, 0, none⟩) 0 0 []) := Lib.hid (World.ownsRow_made w #[] 0 (Nat.le_refl _) (Nat.zero_le _) (by simp))
 go_enter Tryz.func64, Tryz.ntmps64
 go_wp2_with (at_builtin; refine wpList_append_ck rfl (.tmp 5) (.tmp 6) rfl w.heap.size (some ⟨w.heap.size, 0, none⟩) 0 0 [] rfl HO.out (some ad) n c l rfl hn.out HA1.out (fun h => by cases h) n (by omega) (by omega) (by simp) ?_; intro A' cap' w' hO _ _ _ hb)
 go_ret
 exact ⟨A', cap', rfl, hO, ((Below.refl _ w).alloc (Nat.le_refl _) _).trans hb⟩
set_option maxHeartbeats 1000000 in
theorem chunks_any (b : Nat) (P : List Nat) (p : Nat) (cs : List Ck) (foot : Nat) (h0 : 0 < cs.length) (hn9 : cs.length ≤ 900) (w : World) (HS : Hid (SegAt w b P p cs foot)) :
  Calls Tryz.prog 35 #[.pointer (some ⟨b, 0, none⟩)] w fun e w' => ∃ A' n cap', e = .returned (.slice A' n cap') ∧ n = cs.length ∧ OwnC w' w.heap.size A' n cap' cs ∧ Below w.heap.size w w' := by
 obtain ⟨A, n, c, A2, n2, c2, h1, -, -, -, -, h6⟩ := HS.out
 have hn2 : n2 = cs.length := by have h4 := h6.1; rw [cks_length] at h4; omega
 have HN2 := Lib.hid hn2
 have HC := Lib.hid h6.at'
 obtain ⟨x, hx⟩ : ∃ x, cs[0]? = some x := ⟨_, List.getElem?_eq_getElem h0⟩
 obtain ⟨g, off, rfl, -, -⟩ := ckr HC.out 0 x hx
 have cb2 : w.cell? ⟨b, 2, none⟩ = some (.slice (some ⟨g, off, none⟩) n2 c2) := by rw [cell_of_row _ _ _ _ _ _ h1]; rfl
 have hn9' : n2 ≤ 900 := by omega
 clear h1 h6 hn2 hx
 go_enter Tryz.func35, Tryz.ntmps35
 go_wp2_with (go_at_call 64; (with_reducible refine (cloneC_any _ n2 c2 cs HN2 hn9' w HC).mono ?_); rintro e w1 ⟨A', cap', rfl, ho, hb⟩)
 go_ret
 exact ⟨A', n2, cap', rfl, HN2.out, ho, hb⟩
theorem ownE_nil (w : World) (B : Nat) : OwnE w B none 0 0 [] := w.ownsRow_nil B _ 5
theorem ownE_keep {w w' : World} {B n cap : Nat} {A : Option Addr} {l : List Ev} (h : OwnE w B A n cap l) (hb : Below w.heap.size w w') : OwnE w' B A n cap l :=
 World.ownsRow.kept (row := none) h ⟨hb.os, hb.tape, hb.output, hb.size, fun k hk _ => hb.block k hk⟩ (by rcases A with _ | a <;> simp [Value.ownBlock])
/-! The document's example. -/
def evX (i : Nat) : Ev := ⟨i, 0, (i : Int), ByteArray.empty, 0⟩
def evXs (n : Nat) : List Ev := (List.range n).map evX
theorem evXs_succ (n : Nat) : evXs (n + 1) = evXs n ++ [evX n] := by unfold evXs; rw [List.range_succ, List.map_append]; rfl
theorem evXs_len (n : Nat) : (evXs n).length = n := by unfold evXs; simp
theorem evXs_form (i : Nat) (h : i < 200) : formB (evX i) 1 = true := by
 unfold formB evX
 dsimp only
 rw [decide_eq_true (by omega), decide_eq_true (by omega), decide_eq_true (by omega), decide_eq_true (by omega), decide_eq_true (by show 0 ≤ 32; omega), decide_eq_true (by omega)]
 rfl
theorem evXs_chk (o : Nat) : ∀ (m k : Nat), k + m ≤ 190 → chkL 1 (some (k + o)) ((List.range' (k + 1) m).map fun i => evX i) = 0 ∨ o ≠ 0
 | 0, k, h => .inl rfl
 | m + 1, k, h => by
  rcases evXs_chk o m (k + 1) (by omega) with h1 | h1
  ·by_cases ho : o = 0
   ·subst ho
    left
    show chkL 1 (some (k + 0)) (evX (k + 1) :: (List.range' (k + 1 + 1) m).map fun i => evX i) = 0
    unfold chkL
    rw [if_pos (evXs_form (k + 1) (by omega))]
    dsimp only
    rw [if_pos (show (evX (k + 1)).off = k + 0 + 1 from rfl)]
    exact h1
   ·exact .inr ho
  ·exact .inr h1
theorem evXs_chk0 : chkL (((1 : Nat) : Int)) none (evXs 130) = 0 := by
 have h := (evXs_chk 0 129 0 (by omega)).resolve_right (fun h => h rfl)
 have e : evXs 130 = evX 0 :: (List.range' (0 + 1) 129).map fun i => evX i := by
  unfold evXs
  rw [List.range_eq_range', show (130 : Nat) = 129 + 1 from rfl, List.range'_succ]; rfl
 rw [e]
 show chkL 1 none (evX 0 :: _) = 0
 unfold chkL
 rw [if_pos (evXs_form 0 (by omega))]
 exact h
theorem evXs_fine (n : Nat) (hn : n ≤ 200) : ∀ x ∈ evXs n, FineE x := fun x hx => by
 unfold evXs at hx
 obtain ⟨i, hi, rfl⟩ := List.mem_map.1 hx
 have hi : i < n := List.mem_range.1 hi
 exact ⟨by show i < _; omega, ⟨by show (0 : Int) ≤ 0; omega, by show (0 : Int) < 8; omega⟩, ⟨by show _ ≤ (i : Int); omega, by show (i : Int) ≤ _; omega⟩, by show 0 ≤ 32; omega, by show 0 < _; omega⟩
set_option maxHeartbeats 4000000 in
theorem awakeS_any (w : World) (HG : Hid (HalvesAt w)) : Calls Tryz.prog 11 #[] w fun e w' => e = .returned (.bool true) ∧ Below w.heap.size w w' := by
 go_enter Tryz.func11, Tryz.ntmps11
 go_wp2
 go_loopw [1, 2] (fun u v wr => ∃ (k : Nat) (A : Option Addr) (cap : Nat), k ≤ 130 ∧ u = .slice A k cap ∧ v = .int .i64 (k : Int) ∧ OwnE wr w.heap.size A k cap (evXs k) ∧ k ≤ cap ∧ cap ≤ maxLen ∧ Below w.heap.size w wr) (fun _ v _ => 130 - (intOf v).toNat)
 case atStart => exact ⟨0, none, 0, by omega, rfl, rfl, ownE_nil _ _, Nat.le_refl _, Nat.zero_le _, Below.refl _ _⟩
 case round =>
  obtain ⟨k, A, cap, hk, rfl, rfl, ho, hkc, hcm, hb⟩ := hrel
  have HO := Lib.hid ho
  have HB := Lib.hid hb
  clear ho hb
  by_cases hlt : k < 130
  ·have hki : (k : Int) < 130 := by omega
   have hwk : IntKind.u64.wrap (k : Int) = (k : Int) := by rw [IntKind.wrap_u64]; omega
   have hwb : w.heap.size ≤ wr.heap.size := HB.out.size
   have HA : Hid (OwnE (wr.alloc (.cells #[.int .u64 (k : Int), .int .i64 0, .int .i64 (k : Int), .string { data := #[] }, .float .f64 0] 45)) w.heap.size A k cap (evXs k)) := Lib.hid (ownE_keep HO.out ((Below.refl _ _).alloc (Nat.le_refl _) _))
   have HE : Hid (EvAt (wr.alloc (.cells #[.int .u64 (k : Int), .int .i64 0, .int .i64 (k : Int), .string { data := #[] }, .float .f64 0] 45)) (some ⟨wr.heap.size, 0, none⟩) [evX k]) := Lib.hid (evAt_new wr [evX k] _ rfl _)
   have HBA : Hid (Below w.heap.size w (wr.alloc (.cells #[.int .u64 (k : Int), .int .i64 0, .int .i64 (k : Int), .string { data := #[] }, .float .f64 0] 45))) := Lib.hid (HB.out.alloc HB.out.size _)
   go_wp2_with (at_builtin; refine wpList_append_ev rfl _ _ rfl w.heap.size A k cap (evXs k) rfl HA.out (some ⟨wr.heap.size, 0, none⟩) 1 1 [evX k] rfl rfl HE.out (fun h => by cases h) (k + 1) rfl (by omega) (by simp; omega) ?_; intro A3 c3 w3 ho3 h31 h32 h33 hb3; have HO3 := Lib.hid ho3; have HC3 := Lib.hid (And.intro h31 h32); have HB3 := Lib.hid (HBA.out.trans hb3); clear ho3 h31 h32 h33 hb3)
   go_roundw
   case rel => exact ⟨k + 1, A3, c3, by omega, rfl, by go_num, by rw [evXs_succ]; exact HO3.out, HC3.out.1, HC3.out.2, HB3.out⟩
   case measure => simp [intOf]; omega
  ·obtain rfl : k = 130 := by omega
   have hEA := HO.out.at'
   obtain ⟨x, hx⟩ : ∃ x, (evXs 130)[0]? = some x := ⟨_, rfl⟩
   obtain ⟨g, off, rfl, -, -⟩ := evr hEA 0 x hx
   have HW := Lib.hid (write_any g off 130 cap (evXs 130) (Lib.hid (evXs_len 130).symm) (by omega) (by omega) hkc hcm 1 (by omega) (by omega) (Lib.hid evXs_chk0) (Lib.hid (evXs_fine 130 (by omega))) wr (Lib.hid hEA) (Lib.hid (HG.out.keep HB.out)))
   have HOP : Hid ((∀ x ∈ segB 1 (evXs 130), x < 256) → openP (segB 1 (evXs 130)) = some ((1, segCk (evXs 130)), (segPg (evXs 130)).length)) := Lib.hid fun hb => segB_opens 1 (by omega) (by omega) (evXs 130) (by rw [evXs_len]; omega) (by rw [evXs_len]; omega) evXs_chk0 (evXs_fine 130 (by omega)) hb
   have HLN : Hid ((segB 1 (evXs 130)).length ≤ 1000000) := Lib.hid (segB_len 1 (by omega) (evXs 130) (by rw [evXs_len]; omega) (by rw [evXs_len]; omega) (evXs_fine 130 (by omega)))
   have HCL : Hid ((segCk (evXs 130)).length = 3) := Lib.hid (by rw [segCk_len]; unfold segN; rw [evXs_len])
   have HR : Hid (∀ k c, (segCk (evXs 130))[k]? = some c → c.rows = lnC 130 k) := Lib.hid fun k c hc => by
    obtain ⟨h1, h2⟩ := wrS_get (evXs 130) (segN (evXs 130)) k c hc
    have h3 := (segCk_facts evXs_chk0 hx k h1 (ahead (evXs 130) k)).1
    rw [← h2, evXs_len] at h3
    exact h3
   clear hEA hx
   generalize segB 1 (evXs 130) = P at *
   generalize segCk (evXs 130) = cs at *
   generalize (segPg (evXs 130)).length = foot at *
   obtain ⟨c0, hc0⟩ : ∃ c0, cs[0]? = some c0 := ⟨_, List.getElem?_eq_getElem (by have := HCL.out; omega)⟩
   obtain ⟨c2, hc2⟩ : ∃ c2, cs[2]? = some c2 := ⟨_, List.getElem?_eq_getElem (by have := HCL.out; omega)⟩
   have r0 : c0.rows = 64 := by rw [HR.out 0 c0 hc0]; rfl
   have r2 : c2.rows = 2 := by rw [HR.out 2 c2 hc2]; rfl
   have HCC := Lib.hid (And.intro (And.intro hc0 r0) (And.intro hc2 r2))
   clear hc0 hc2 r0 r2 HR
   go_wp2_with (first
    | (go_at_call 13; (with_reducible refine (show Calls Tryz.prog 13 #[.slice (some ⟨g, off, none⟩) 130 cap, .int .i64 1] wr _ from HW.out).mono ?_); rintro e w1 ⟨A1, m1, cap1, rfl, h1, h2⟩; have HO1 := Lib.hid h1; have HB1 := Lib.hid h2; have HB1w := Lib.hid (below_to HB.out h2); clear h1 h2)
    | (go_at_call 14; have hop := open_any A1 m1 cap1 P (Lib.hid HO1.out.len) (by have := HLN.out; have := HO1.out.len; omega) HO1.out.caps.1 HO1.out.caps.2 w1 (Lib.hid HO1.out.byAt) (Lib.hid (HG.out.keep HB1w.out)); rw [HOP.out HO1.out.2] at hop; (with_reducible refine hop.mono ?_); rintro e w2 ⟨b, rfl, hs, -, h2⟩; have HS2 : Hid (SegAt w2 b P 1 cs foot) := Lib.hid hs; have HB2w := Lib.hid (below_to HB1w.out h2); clear hop hs h2)
    | (go_at_call 35; (with_reducible refine (chunks_any b P 1 cs foot (by have := HCL.out; omega) (by have := HCL.out; omega) w2 HS2).mono ?_); rintro e w3 ⟨A3, n3, c3, rfl, hn3, ho3, hb3⟩; obtain rfl : n3 = 3 := hn3.trans HCL.out; have HB3w := Lib.hid (below_to HB2w.out hb3); obtain ⟨g3, o3, hA3, -, hr0⟩ := ckr ho3.at' 0 c0 HCC.out.1.1; subst hA3; obtain ⟨g4, o4, hA4, -, hr2⟩ := ckr ho3.at' 2 c2 HCC.out.2.1; injection hA4 with hA4; injection hA4 with e3 e4; subst e3; subst e4; have q0 := hr0 0 _ rfl; have q2 := hr2 0 _ rfl; rw [HCC.out.1.2] at q0; rw [HCC.out.2.2] at q2; have q0 : w3.cell? ⟨g3, o3, none⟩ = some (.int .i64 64) := q0; have q2 : w3.cell? ⟨g3, o3 + 2 * 8, none⟩ = some (.int .i64 2) := q2; clear hn3 ho3 hb3 hr0 hr2))
   go_ret
   exact ⟨rfl, HB3w.out⟩
end Go.Proofs.YtifabkbdiiolfaaGreatDoor
