/-
  Layer segment: the contract of Open, of any bytes.
-/
import Derived.Test.YtifabkbdiiolfaaDoorYsK
import Derived.Test.YtifabkbdiiolfaaDoorYeK
import Derived.Test.YtifabkbdiiolfaaDoorGzK
import Derived.Test.YtifabkbdiiolfaaDoorByK
import Derived.Test.YtifabkbdiiolfaaDoorCyK
set_option linter.unusedSimpArgs false
set_option linter.unusedVariables false
set_option maxRecDepth 8000
namespace Go.Proofs.YtifabkbdiiolfaaDoor
open Go.RowKit Go.WideShapes Col
theorem four_valLS : ∀ (l : List Nat), l.length = 4 → (∀ x ∈ l, x < 256) → Pg.four (Pg.val l) = l
 | [a, b, c, d], _, h => by
  have h1 := h a (by simp); have h2 := h b (by simp); have h3 := h c (by simp); have h4 := h d (by simp)
  unfold Pg.four Pg.val Pg.val Pg.val Pg.val Pg.val
  have e1 : (a + 256 * (b + 256 * (c + 256 * (d + 256 * 0)))) % 256 = a := by omega
  have e2 : (a + 256 * (b + 256 * (c + 256 * (d + 256 * 0)))) / 256 % 256 = b := by omega
  have e3 : (a + 256 * (b + 256 * (c + 256 * (d + 256 * 0)))) / 65536 % 256 = c := by omega
  have e4 : (a + 256 * (b + 256 * (c + 256 * (d + 256 * 0)))) / 16777216 % 256 = d := by omega
  rw [e1, e2, e3, e4]
theorem errAt_zeroS (l : List Nat) : Pg.errAt l 0 = Pg.errOf l := by
 unfold Pg.errAt
 rw [if_neg (by omega)]; rfl
theorem one_errS (l : List Nat) (kind : Nat) (h : Pg.oneErr l kind ≠ 0) : Pg.oneErr l kind = 3 ∨ Pg.oneErr l kind = 4 := by
 have h1 : Pg.errOf l = 0 ∨ Pg.errOf l = 3 ∨ Pg.errOf l = 4 := by
  unfold Pg.errOf
  split
  ·exact .inr (.inl rfl)
  ·split
   ·exact .inr (.inl rfl)
   ·split
    ·exact .inr (.inl rfl)
    ·split
     ·exact .inl rfl
     ·exact .inr (.inr rfl)
 unfold Pg.oneErr at h ⊢
 rw [errAt_zeroS] at h ⊢
 split
 ·rcases h1 with h1 | h1 | h1
  ·rename_i h2; exact absurd h1 h2
  ·exact .inl h1
  ·exact .inr h1
 ·rename_i h2
  rw [if_neg h2] at h
  split
  ·rename_i h3; rw [if_pos h3] at h; exact absurd rfl h
  ·exact .inl rfl
/-- A page that is one has just the bytes that are laid of it. -/
theorem one_layS (l : List Nat) (kind : Nat) (hl : ∀ x ∈ l, x < 256) (h : Pg.oneErr l kind = 0) : l = Pg.lay kind (Pg.oneBody l kind) := by
 have hb : Pg.oneBody l kind = Pg.bodyAt l 0 := if_pos h
 rw [hb]
 unfold Pg.oneErr at h
 split at h
 ·rename_i h2; exact absurd h h2
 rename_i h2
 have h2 : Pg.errAt l 0 = 0 := by simpa using h2
 split at h
 ·rename_i h3
  obtain ⟨hk, he⟩ := h3
  have e0 : (0 : Int).toNat = 0 := rfl
  unfold Pg.kindAt at hk
  rw [if_pos h2, e0, List.drop_zero] at hk
  unfold Pg.endAt at he
  rw [if_pos h2, e0, List.drop_zero] at he
  unfold Pg.bodyAt
  rw [if_pos h2, e0, List.drop_zero]
  rw [errAt_zeroS] at h2
  unfold Pg.errOf at h2
  split at h2
  ·cases h2
  split at h2
  ·cases h2
  split at h2
  ·cases h2
  split at h2
  ·rename_i h9 hsz hlen hsum
   obtain ⟨n, hn⟩ : ∃ n, n = Pg.sz l := ⟨_, rfl⟩
   rw [← hn] at he hsum hlen ⊢
   have hll : l.length = n + 9 := by omega
   have hbl : ((l.drop 5).take n).length = n := by rw [List.length_take, List.length_drop]; omega
   have h4 : Pg.four n = l.take 4 := by
    rw [hn]; unfold Pg.sz
    exact four_valLS _ (by rw [List.length_take]; omega) (fun x hx => hl x (List.mem_of_mem_take hx))
   have hfr : Pg.front kind ((l.drop 5).take n) = l.take (5 + n) := by
    unfold Pg.front
    rw [hbl, h4, show 5 + n = 4 + (n + 1) by omega, List.take_add]
    congr 1
    have h5 : l.drop 4 = kind :: l.drop 5 := by
     rw [List.drop_eq_getElem_cons (by omega)]
     congr 1
     rw [← hk, List.getD_eq_getElem?_getD, List.getElem?_eq_getElem (by omega)]; rfl
    rw [h5, List.take_succ_cons]
   unfold Pg.lay
   rw [hfr, ← hsum]
   have hd : (l.drop (5 + n)).take 4 = l.drop (5 + n) := List.take_of_length_le (by rw [List.length_drop]; omega)
   rw [hd, four_valLS _ (by rw [List.length_drop]; omega) (fun x hx => hl x (List.mem_of_mem_drop hx)), List.take_append_drop]
  ·cases h2
 ·cases h
theorem errAt_or (l : List Nat) (i : Nat) (hi : i ≤ l.length) : Pg.errAt l (i : Int) = 0 ∨ Pg.errAt l (i : Int) = 3 ∨ Pg.errAt l (i : Int) = 4 := by
 unfold Pg.errAt
 rw [if_neg (by omega)]
 unfold Pg.errOf
 split
 ·exact .inr (.inl rfl)
 ·split
  ·exact .inr (.inl rfl)
  ·split
   ·exact .inr (.inl rfl)
   ·split
    ·exact .inl rfl
    ·exact .inr (.inr rfl)
theorem results_tmp2U {fn : Func} {t u : Tmp} (h : fn.results = #[.tmp t, .tmp u]) (tmps : Array Value) (P : Program) (w : World) :
  (results fn tmps).run P w = .ok (.tuple #[tmps.getD t undef, tmps.getD u undef]) w := by simp [results, h]
/-- The foot's body, where the last bytes tell it. -/
def lastP (P : List Nat) : List Nat := P.drop (P.length - 13)
def ftOf (P : List Nat) : Nat := Pg.val (Pg.oneBody (lastP P) 116)
def bodyS (P : List Nat) (foot : Nat) : Option ((Nat × List Ck) × Nat) := match footP foot (Pg.bodyAt P (foot : Int)) with
 | some (t, []) => some (t, foot)
 | _ => none
/-- The segment of some bytes: of how many partitions, its chunks, where its foot stands. -/
def openP (P : List Nat) : Option ((Nat × List Ck) × Nat) :=
 if P.length < 13 then none else if Pg.oneErr (lastP P) 116 ≠ 0 then none else if P.length < ftOf P then none else if Pg.errAt P (ftOf P : Int) ≠ 0 then none
 else if Pg.kindAt P (ftOf P : Int) = 102 ∧ Pg.endAt P (ftOf P : Int) = ((P.length - 13 : Nat) : Int) then bodyS P (ftOf P) else none
/-- A segment in memory. -/
def SegAt (w : World) (b : Nat) (P : List Nat) (p : Nat) (cs : List Ck) (foot : Nat) : Prop := ∃ A n c A2 n2 c2, w.heap[b]? = some (.cells #[.slice A n c, .int .i64 (p : Int), .slice A2 n2 c2, .int .i64 (foot : Int)] 60 (0, 0)) ∧ n = P.length ∧ ByAt w A P ∧ n ≤ c ∧ c ≤ maxLen ∧ OwnC w 0 A2 n2 c2 cs
theorem SegAt.keep {w w' : World} {b p foot : Nat} {P : List Nat} {cs : List Ck} (h : SegAt w b P p cs foot) (hb : Below w.heap.size w w') : SegAt w' b P p cs foot := by
 obtain ⟨A, n, c, A2, n2, c2, h1, h2, h3, h4, h5, h6⟩ := h
 exact ⟨A, n, c, A2, n2, c2, (hb.block b (Array.getElem?_eq_some_iff.1 h1).1).trans h1, h2, h3.keep hb, h4, h5, h6.keep hb⟩
/-- How Open ends. -/
def OEnds (P : List Nat) (w : World) (o : Option ((Nat × List Ck) × Nat)) (e : Ending) (w' : World) : Prop := match o with
 | none => ∃ c : Nat, (c = 3 ∨ c = 4) ∧ e = .returned (.tuple #[.pointer none, .int .i64 (c : Int)]) ∧ Below w.heap.size w w'
 | some t => ∃ b, e = .returned (.tuple #[.pointer (some ⟨b, 0, none⟩), .int .i64 0]) ∧ SegAt w' b P t.1.1 t.1.2 t.2 ∧ w.heap.size ≤ b ∧ Below w.heap.size w w'
theorem rsg_keep {o : Option ((Nat × List Ck) × List Nat)} {bs foot g : Nat} {b : Bool} {w w' : World} (h : RSg o bs foot (fun k => k = g) b w) (hk : Kept (Only g) w w') (hg : bs < g) : RSg o bs foot (fun _ => False) b w' := by
 rcases o with _ | t
 ·exact h
 ·obtain ⟨h1, A, n, cap, h2, h3, h4⟩ := h
  exact ⟨h1, A, n, cap, hk.heap h2 (fun e => by have e : bs = g := e; omega), h3.keptW hk (fun j hj e => h4 j hj e), fun _ _ h => h⟩
theorem seg_done {w1 w2 : World} {bs p foot : Nat} {P : List Nat} {cs : List Ck} {A A2 : Option Addr} {n c n2 c2 : Nat}
  (hrow : w2.heap[bs]? = some (.cells [.slice none 0 0, .int .i64 (p : Int), .slice A2 n2 c2, .int .i64 (foot : Int)].toArray 60 (0, 0))) (ho : OwnS w2 w1.heap.size A n c P) (hb : bs < w1.heap.size) (hoc : OwnC w2 0 A2 n2 c2 cs) :
  SegAt (w2.setCell ⟨bs, 0, none⟩ (.slice A n c)) bs P p cs foot := by
 have hk : Kept (fun k => k = bs) w2 (w2.setCell ⟨bs, 0, none⟩ (.slice A n c)) := (Kept.refl _ _).setCell _ _ (.inl rfl)
 have ho2 := ho.keptW hk fun k hk e => by obtain ⟨_, _, _, _, h1⟩ := own_cells ho hk; have e : k = bs := e; omega
 refine ⟨A, n, c, A2, n2, c2, row_set hrow 0 _, ho.len, ho2.byAt, ho.caps.1, ho.caps.2, ?_⟩
 exact hoc.keptW hk fun k hk2 e => by
  have e : k = bs := e
  subst e
  rcases hoc.2 with ⟨e0, e1⟩ | ⟨g', cap', cur, e0, -, hg', -⟩
  ·injection e0 with e0 _ _; rw [e0] at hk2; cases hk2
  ·injection e0 with e0 _ _; rw [e0] at hk2; injection hk2 with hk2; subst hk2
   rw [hrow] at hg'
   injection hg' with hg'
   injection hg' with _ h2 _
   exact absurd h2 (by decide)
set_option maxHeartbeats 8000000 in
theorem open_any (A : Option Addr) (N cap : Nat) (P : List Nat) (hN : Hid (N = P.length)) (hP : N ≤ 1000000) (hc : N ≤ cap) (hcm : cap ≤ maxLen) (w : World) (HA : Hid (ByAt w A P)) (HG : Hid (HalvesAt w)) :
  Calls Tryd.prog 7 #[.slice A N cap] w (OEnds P w (openP P)) := by
 by_cases h13 : N < 13
 ·have HO : Hid (openP P = none) := Lib.hid (by unfold openP; rw [if_pos (by have := hN.out; omega)])
  have h13i : (N : Int) < 13 := by omega
  go_enter Tryd.func7, Tryd.ntmps7
  go_wp2
  refine bodyPost_ret (results_tmp2U rfl _ _ _) rfl ?_
  rw [HO.out]
  exact ⟨3, .inl rfl, rfl, Below.refl _ _⟩
 have h13i : ¬ ((N : Int) < 13) := by omega
 have hlt : ∀ x ∈ P, x < 256 := HA.out.lt
 obtain ⟨la, hla⟩ : ∃ la, la = N - 13 := ⟨_, rfl⟩
 have HLI : Hid ((N : Int) - 13 = (la : Int)) := Lib.hid (by omega)
 have HLP : Hid (lastP P = P.drop la ∧ P.length - 13 = la ∧ N - la = 13) := Lib.hid (by unfold lastP; rw [← hN.out, ← hla]; exact ⟨rfl, rfl, by omega⟩)
 obtain ⟨A1, C1, hcut, hc1, hc2, hby⟩ := cut_from A N cap la (by omega) hc
 rw [HLP.out.2.2] at hcut hc1
 have HL13 : Hid (13 = (P.drop la).length) := Lib.hid (by rw [List.length_drop]; have := hN.out; omega)
 have HO1 : Hid (∀ w1, Below w.heap.size w w1 → Calls Tryd.prog 22 #[.slice A1 13 C1, .int .u8 116] w1 (RetO w1 (P.drop la) 116)) := Lib.hid fun w1 hb => one_any A1 (P.drop la) 13 C1 116 HL13 hc1 (by omega) w1 (Lib.hid (hby w1 P hN.out (HA.out.keep hb))) (Lib.hid (HG.out.keep hb))
 have hOP : openP P = if Pg.oneErr (P.drop la) 116 ≠ 0 then none else if P.length < ftOf P then none else if Pg.errAt P (ftOf P : Int) ≠ 0 then none
   else if Pg.kindAt P (ftOf P : Int) = 102 ∧ Pg.endAt P (ftOf P : Int) = (la : Int) then bodyS P (ftOf P) else none := by
  unfold openP
  rw [if_neg (by have := hN.out; omega), HLP.out.1, HLP.out.2.1]
 have HOP := Lib.hid hOP
 have HFT : Hid (ftOf P = Pg.val (Pg.oneBody (P.drop la) 116)) := Lib.hid (by unfold ftOf; rw [HLP.out.1])
 have HC2 := Lib.hid hc2
 clear hOP hla hby h13
 by_cases he1 : Pg.oneErr (P.drop la) 116 = 0
 ·replace HOP : Hid (openP P = if P.length < ftOf P then none else if Pg.errAt P (ftOf P : Int) ≠ 0 then none
   else if Pg.kindAt P (ftOf P : Int) = 102 ∧ Pg.endAt P (ftOf P : Int) = (la : Int) then bodyS P (ftOf P) else none) := Lib.hid (by rw [HOP.out, if_neg (fun h => h he1)])
  have hb4 : (Pg.oneBody (P.drop la) 116).length = 4 := by
   have h := congrArg List.length (one_layS (P.drop la) 116 (fun x hx => hlt x (List.mem_of_mem_drop hx)) he1)
   rw [Pg.lay_len, ← HL13.out] at h
   omega
  have HOY : Hid (Calls Tryd.prog 22 #[.slice A1 13 C1, .int .u8 116] w fun e w' => ∃ A6 m C6, e = .returned (.tuple #[.slice A6 m C6, .int .i64 0]) ∧ m = 4 ∧ ByAt w' A6 (Pg.oneBody (P.drop la) 116) ∧ Below w.heap.size w w') := Lib.hid ((HO1.out w (Below.refl _ _)).mono fun e w' ⟨A6, C6, h1, h2, h3, h4, h5⟩ => ⟨A6, _, C6, by rw [h1, he1]; rfl, hb4, h2, h5⟩)
  obtain ⟨b0, b1, b2, b3, hq4⟩ : ∃ b0 b1 b2 b3, Pg.oneBody (P.drop la) 116 = [b0, b1, b2, b3] := by
   match h : Pg.oneBody (P.drop la) 116, hb4 with
   | [b0, b1, b2, b3], _ => exact ⟨b0, b1, b2, b3, rfl⟩
  rw [hq4] at HOY HFT
  obtain ⟨foot, hfoot⟩ : ∃ foot, foot = ftOf P := ⟨_, rfl⟩
  have HFV : Hid (Pg.val [b0, b1, b2, b3] = foot) := Lib.hid (by rw [hfoot, HFT.out])
  rw [← hfoot] at HOP
  clear hq4 hb4 he1 HO1 hfoot HFT hlt
  have hwN : IntKind.u64.wrap (N : Int) = (N : Int) := by rw [IntKind.wrap_u64]; omega
  have hout := hcut
  by_cases hfn : N < foot
  ·have HO : Hid (openP P = none) := Lib.hid (by rw [HOP.out, if_pos (by have := hN.out; omega)])
   have hfi : (N : Int) < (foot : Int) := by omega
   have hli := HLI.out
   go_enter Tryd.func7, Tryd.ntmps7
   go_wp2_with (first
    | (go_at_call 22; (with_reducible refine (HOY.out).mono ?_); rintro e w1 ⟨A6, m6, C6, rfl, h1, h2, h5⟩; have HM6 := Lib.hid h1; have HBY := Lib.hid h2; have HB1 := Lib.hid h5; clear h1 h2 h5)
    | (go_at_call 23; obtain rfl : m6 = 4 := HM6.out; refine (placeOf_any A6 b0 b1 b2 b3 C6 w1 HBY).mono ?_; rintro e w2 ⟨rfl, rfl⟩; rw [HFV.out]))
   refine bodyPost_ret (results_tmp2U rfl _ _ _) rfl ?_
   rw [HO.out]
   exact ⟨3, .inl rfl, rfl, HB1.out⟩
  replace HOP : Hid (openP P = if Pg.errAt P (foot : Int) ≠ 0 then none else if Pg.kindAt P (foot : Int) = 102 ∧ Pg.endAt P (foot : Int) = (la : Int) then bodyS P foot else none) := Lib.hid (by rw [HOP.out, if_neg (by have := hN.out; omega)])
  have hfi : ¬ ((N : Int) < (foot : Int)) := by omega
  have hft6 : foot ≤ 1000000 := by omega
  have hwf : IntKind.i64.wrap (foot : Int) = (foot : Int) := by rw [IntKind.wrap_i64]; omega
  have hee := errAt_or P foot (by have := hN.out; omega)
  have HRQ : Hid (∀ w1, Below w.heap.size w w1 → Calls Tryd.prog 24 #[.slice A N cap, .int .i64 (foot : Int)] w1 (RetQ w1 P (foot : Int))) := Lib.hid fun w1 hb => read_any A P N cap (foot : Int) hN hc hcm w1 (Lib.hid (HA.out.keep hb)) (Lib.hid (HG.out.keep hb))
  have HBX : Hid (∀ w1 : World, Below w1.heap.size w1 (w1.alloc (.cells #[.slice none 0 0, .int .i64 0, .slice none 0 0, .int .i64 (foot : Int)] 60)) ∧ (w1.alloc (.cells #[.slice none 0 0, .int .i64 0, .slice none 0 0, .int .i64 (foot : Int)] 60)).heap[w1.heap.size]? = some (.cells #[.slice none 0 0, .int .i64 0, .slice none 0 0, .int .i64 (foot : Int)] 60 (0, 0))) := Lib.hid fun w1 => ⟨(Below.refl _ _).alloc (Nat.le_refl _) _, heap_alloc_new' w1 _⟩
  by_cases he2 : Pg.errAt P (foot : Int) = 0
  ·replace HOP : Hid (openP P = if Pg.kindAt P (foot : Int) = 102 ∧ Pg.endAt P (foot : Int) = (la : Int) then bodyS P foot else none) := Lib.hid (by rw [HOP.out, if_neg (fun h => h he2)])
   have hq6 : (Pg.bodyAt P (foot : Int)).length ≤ 1000000 := by
    unfold Pg.bodyAt
    rw [if_pos he2, List.length_take, List.length_drop, List.length_drop]
    have := hN.out
    omega
   have HRY : Hid (∀ w1, Below w.heap.size w w1 → Calls Tryd.prog 24 #[.slice A N cap, .int .i64 (foot : Int)] w1 fun e w' => ∃ A7 m7 C7, e = .returned (.tuple #[.int .u8 (Pg.kindAt P (foot : Int) : Nat), .slice A7 m7 C7, .int .i64 (Pg.endAt P (foot : Int)), .int .i64 0]) ∧ m7 = (Pg.bodyAt P (foot : Int)).length ∧ ByAt w' A7 (Pg.bodyAt P (foot : Int)) ∧ m7 ≤ C7 ∧ C7 ≤ maxLen ∧ Below w1.heap.size w1 w') := Lib.hid fun w1 hb => (HRQ.out w1 hb).mono fun e w' ⟨A7, C7, h1, h2, h3, h4, h5⟩ => ⟨A7, _, C7, by rw [h1, he2]; rfl, rfl, h2, h3, h4, h5⟩
   have HBS : Hid (bodyS P foot = match footP foot (Pg.bodyAt P (foot : Int)) with | some (t, []) => some (t, foot) | _ => none) := Lib.hid rfl
   generalize Pg.bodyAt P (foot : Int) = q at *
   generalize Pg.kindAt P (foot : Int) = kd at *
   generalize Pg.endAt P (foot : Int) = E at *
   clear hee he2 HRQ
   by_cases hkd : kd = 102
   ·by_cases hE : E = (la : Int)
    ·subst hkd
     subst hE
     replace HOP : Hid (openP P = bodyS P foot) := Lib.hid (by rw [HOP.out, if_pos ⟨rfl, rfl⟩])
     rw [HBS.out] at HOP
     have hmf : ∀ (fn : Fn) (first cap : Array Value) (w : World), (Instr.makeFunc fn first cap).run Tryd.prog w = .ok (.func fn first cap) w := fun _ _ _ _ => rfl
     have HTR : Hid (∀ (w1 : World) (bs : Nat) (A7 : Option Addr) (m7 C7 : Nat), m7 = q.length → m7 ≤ C7 → C7 ≤ maxLen → ByAt w1 A7 q → w1.heap[bs]? = some (.cells #[.slice none 0 0, .int .i64 0, .slice none 0 0, .int .i64 (foot : Int)] 60 (0, 0)) →
       Calls Tryd.prog 25 #[.slice A7 m7 C7, .func (.func 26) #[.pointer (some ⟨bs, 0, none⟩)] #[]] w1 (TryEnds (fun k => k = bs) (fun b w' => RSg (footP foot q) bs foot (fun _ => False) b w') w1)) := Lib.hid fun w1 bs A7 m7 C7 hm h1 h2 h3 hrow =>
      try_any 26 #[.pointer (some ⟨bs, 0, none⟩)] #[] A7 C7 q m7 (Lib.hid hm) h1 h2 w1 (Lib.hid h3) (fun k => k = bs) (fun k hk => by have := (Array.getElem?_eq_some_iff.1 hrow).1; omega)
       (fun g b w' => RSg (footP foot q) bs foot (fun k => k = g) b w') (fun b w' => RSg (footP foot q) bs foot (fun _ => False) b w')
       (fun g b v2 v3 hg h hk => rsg_keep h hk (by have := (Array.getElem?_eq_some_iff.1 hrow).1; omega))
       (fun g v2 hg hr hb => readFoot_all g bs foot (Lib.hid (by omega)) q hq6 v2 (by have := (Array.getElem?_eq_some_iff.1 hrow).1; omega) (Lib.hid ((hb.block bs (Array.getElem?_eq_some_iff.1 hrow).1).trans hrow)) (Lib.hid hr))
       (fun _ _ => by first | rfl | kernel_rfl)
     rcases hfp : footP foot q with _ | ⟨t, r⟩
     ·rw [hfp] at HTR HOP
      replace HOP : Hid (openP P = none) := HOP
      clear hfp
      have hli := HLI.out
      go_enter Tryd.func7, Tryd.ntmps7
      go_wp2_with (first
       | (go_at_call 22; (with_reducible refine (HOY.out).mono ?_); rintro e w1 ⟨A6, m6, C6, rfl, h1, h2, h5⟩; have HM6 := Lib.hid h1; have HBY := Lib.hid h2; have HB1 := Lib.hid h5; clear h1 h2 h5)
       | (go_at_call 23; obtain rfl : m6 = 4 := HM6.out; refine (placeOf_any A6 b0 b1 b2 b3 C6 w1 HBY).mono ?_; rintro e w2 ⟨rfl, rfl⟩; rw [HFV.out])
       | (go_at_call 24; have HBX1 := Lib.hid (HBX.out w1); (with_reducible refine (HRY.out _ (HB1.out.trans (HBX1.out.1.mono HB1.out.size))).mono ?_); rintro e w3 ⟨A7, m7, C7, rfl, h1, h2, h3, h4, h5⟩; have HM7 := Lib.hid h1; have HBY7 := Lib.hid h2; have HC7 := Lib.hid (And.intro h3 h4); have HB3 := Lib.hid h5; have HR3 := Lib.hid ((h5.block _ (Array.getElem?_eq_some_iff.1 HBX1.out.2).1).trans HBX1.out.2); have HBW3 : Hid (Below w.heap.size w w3) := Lib.hid ((HB1.out.trans (HBX1.out.1.mono HB1.out.size)).trans (h5.mono (HB1.out.trans (HBX1.out.1.mono HB1.out.size)).size)); clear h1 h2 h3 h4 h5)
       | (go_at_call 25; (with_reducible refine (HTR.out w3 _ _ _ _ HM7.out HC7.out.1 HC7.out.2 HBY7.out HR3.out).mono ?_); rintro e w8 ⟨b, rfl, hr, hk⟩; obtain rfl : b = false := hr; have HK8 := Lib.hid hk; clear hk))
      refine bodyPost_ret (results_tmp2U rfl _ _ _) rfl ?_
      rw [HOP.out]
      exact ⟨3, .inl rfl, rfl, HBW3.out.trans (HK8.out.below HBW3.out.size (fun k hk => by have hk : k = w1.heap.size := hk; have := HB1.out.size; omega))⟩
     ·rcases r with _ | ⟨x, r⟩
      ·rw [hfp] at HTR HOP
       replace HOP : Hid (openP P = some (t, foot)) := HOP
       clear hfp
       have hli := HLI.out
       go_enter Tryd.func7, Tryd.ntmps7
       go_wp2_with (first
        | (go_at_call 22; (with_reducible refine (HOY.out).mono ?_); rintro e w1 ⟨A6, m6, C6, rfl, h1, h2, h5⟩; have HM6 := Lib.hid h1; have HBY := Lib.hid h2; have HB1 := Lib.hid h5; clear h1 h2 h5)
        | (go_at_call 23; obtain rfl : m6 = 4 := HM6.out; refine (placeOf_any A6 b0 b1 b2 b3 C6 w1 HBY).mono ?_; rintro e w2 ⟨rfl, rfl⟩; rw [HFV.out])
        | (go_at_call 24; have HBX1 := Lib.hid (HBX.out w1); (with_reducible refine (HRY.out _ (HB1.out.trans (HBX1.out.1.mono HB1.out.size))).mono ?_); rintro e w3 ⟨A7, m7, C7, rfl, h1, h2, h3, h4, h5⟩; have HM7 := Lib.hid h1; have HBY7 := Lib.hid h2; have HC7 := Lib.hid (And.intro h3 h4); have HB3 := Lib.hid h5; have HR3 := Lib.hid ((h5.block _ (Array.getElem?_eq_some_iff.1 HBX1.out.2).1).trans HBX1.out.2); have HBW3 : Hid (Below w.heap.size w w3) := Lib.hid ((HB1.out.trans (HBX1.out.1.mono HB1.out.size)).trans (h5.mono (HB1.out.trans (HBX1.out.1.mono HB1.out.size)).size)); clear h1 h2 h3 h4 h5)
        | (go_at_call 25; (with_reducible refine (HTR.out w3 _ _ _ _ HM7.out HC7.out.1 HC7.out.2 HBY7.out HR3.out).mono ?_); rintro e w8 ⟨b, rfl, hr, hk⟩; obtain ⟨hbt, A9, n9, c9, hrow, h1, -⟩ := hr; obtain rfl : b = true := hbt; have HK8 := Lib.hid hk; have HO9 := Lib.hid h1; have HR8 := Lib.hid hrow; clear hrow h1 hk)
        | (go_at_call 27; have HBW8 : Hid (Below w.heap.size w w8) := Lib.hid (HBW3.out.trans (HK8.out.below HBW3.out.size (fun k hk => by have hk : k = _ := hk; have := HB1.out.size; omega))); refine (clone_any A P N cap hN (by omega) w8 (Lib.hid (HA.out.keep HBW8.out))).mono ?_; rintro e w9 ⟨A4, c4, rfl, h1, h2⟩; have HO4 := Lib.hid h1; have HB9 := Lib.hid h2; have HR9 := Lib.hid ((h2.block _ (Array.getElem?_eq_some_iff.1 HR8.out).1).trans HR8.out); have c90 := row_cell (cs := [.slice none 0 0, .int .i64 (t.1 : Int), .slice A9 n9 c9, .int .i64 (foot : Int)]) HR9.out 0 (by simp); have f90 := row_frozen HR9.out 0; clear h1 h2))
       refine bodyPost_ret (results_tmp2U rfl _ _ _) rfl ?_
       rw [HOP.out]
       have hs1 : w1.heap.size < w8.heap.size := (Array.getElem?_eq_some_iff.1 HR8.out).1
       refine ⟨w1.heap.size, rfl, seg_done HR9.out HO4.out hs1 (HO9.out.keep HB9.out), HB1.out.size, ?_⟩
       exact ((HBW3.out.trans (HK8.out.below HBW3.out.size (fun k hk => by have hk : k = w1.heap.size := hk; have := HB1.out.size; omega))).trans (HB9.out.mono (Nat.le_trans HBW3.out.size HK8.out.size))).setCell HB1.out.size _
      ·rw [hfp] at HTR HOP
       replace HOP : Hid (openP P = none) := HOP
       clear hfp
       have hli := HLI.out
       go_enter Tryd.func7, Tryd.ntmps7
       go_wp2_with (first
        | (go_at_call 22; (with_reducible refine (HOY.out).mono ?_); rintro e w1 ⟨A6, m6, C6, rfl, h1, h2, h5⟩; have HM6 := Lib.hid h1; have HBY := Lib.hid h2; have HB1 := Lib.hid h5; clear h1 h2 h5)
        | (go_at_call 23; obtain rfl : m6 = 4 := HM6.out; refine (placeOf_any A6 b0 b1 b2 b3 C6 w1 HBY).mono ?_; rintro e w2 ⟨rfl, rfl⟩; rw [HFV.out])
        | (go_at_call 24; have HBX1 := Lib.hid (HBX.out w1); (with_reducible refine (HRY.out _ (HB1.out.trans (HBX1.out.1.mono HB1.out.size))).mono ?_); rintro e w3 ⟨A7, m7, C7, rfl, h1, h2, h3, h4, h5⟩; have HM7 := Lib.hid h1; have HBY7 := Lib.hid h2; have HC7 := Lib.hid (And.intro h3 h4); have HB3 := Lib.hid h5; have HR3 := Lib.hid ((h5.block _ (Array.getElem?_eq_some_iff.1 HBX1.out.2).1).trans HBX1.out.2); have HBW3 : Hid (Below w.heap.size w w3) := Lib.hid ((HB1.out.trans (HBX1.out.1.mono HB1.out.size)).trans (h5.mono (HB1.out.trans (HBX1.out.1.mono HB1.out.size)).size)); clear h1 h2 h3 h4 h5)
        | (go_at_call 25; (with_reducible refine (HTR.out w3 _ _ _ _ HM7.out HC7.out.1 HC7.out.2 HBY7.out HR3.out).mono ?_); rintro e w8 ⟨b, rfl, hr, hk⟩; obtain rfl : b = false := hr.1; have HK8 := Lib.hid hk; clear hk hr))
       refine bodyPost_ret (results_tmp2U rfl _ _ _) rfl ?_
       rw [HOP.out]
       exact ⟨3, .inl rfl, rfl, HBW3.out.trans (HK8.out.below HBW3.out.size (fun k hk => by have hk : k = w1.heap.size := hk; have := HB1.out.size; omega))⟩
    ·have hEi : ¬ (E = (la : Int)) := hE
     have hEj : (E == (la : Int)) = false := by rw [beq_eq_false_iff_ne]; exact hE
     subst hkd
     replace HOP : Hid (openP P = none) := Lib.hid (by rw [HOP.out, if_neg (fun h => hE h.2)])
     clear hE
     have hli := HLI.out
     go_enter Tryd.func7, Tryd.ntmps7
     go_wp2_with (first
      | (go_at_call 22; (with_reducible refine (HOY.out).mono ?_); rintro e w1 ⟨A6, m6, C6, rfl, h1, h2, h5⟩; have HM6 := Lib.hid h1; have HBY := Lib.hid h2; have HB1 := Lib.hid h5; clear h1 h2 h5)
      | (go_at_call 23; obtain rfl : m6 = 4 := HM6.out; refine (placeOf_any A6 b0 b1 b2 b3 C6 w1 HBY).mono ?_; rintro e w2 ⟨rfl, rfl⟩; rw [HFV.out])
      | (go_at_call 24; have HBX1 := Lib.hid (HBX.out w1); (with_reducible refine (HRY.out _ (HB1.out.trans (HBX1.out.1.mono HB1.out.size))).mono ?_); rintro e w3 ⟨A7, m7, C7, rfl, h1, h2, h3, h4, h5⟩; have HM7 := Lib.hid h1; have HBY7 := Lib.hid h2; have HC7 := Lib.hid (And.intro h3 h4); have HB3 := Lib.hid h5; have HR3 := Lib.hid ((h5.block _ (Array.getElem?_eq_some_iff.1 HBX1.out.2).1).trans HBX1.out.2); have HBW3 : Hid (Below w.heap.size w w3) := Lib.hid ((HB1.out.trans (HBX1.out.1.mono HB1.out.size)).trans (h5.mono (HB1.out.trans (HBX1.out.1.mono HB1.out.size)).size)); clear h1 h2 h3 h4 h5))
     refine bodyPost_ret (results_tmp2U rfl _ _ _) rfl ?_
     rw [HOP.out]
     exact ⟨3, .inl rfl, rfl, HBW3.out⟩
   ·have hki : ¬ ((kd : Int) = 102) := by omega
    have hkj : ((kd : Int) == 102) = false := by rw [beq_eq_false_iff_ne]; omega
    replace HOP : Hid (openP P = none) := Lib.hid (by rw [HOP.out, if_neg (fun h => hkd h.1)])
    clear hkd
    have hli := HLI.out
    go_enter Tryd.func7, Tryd.ntmps7
    go_wp2_with (first
     | (go_at_call 22; (with_reducible refine (HOY.out).mono ?_); rintro e w1 ⟨A6, m6, C6, rfl, h1, h2, h5⟩; have HM6 := Lib.hid h1; have HBY := Lib.hid h2; have HB1 := Lib.hid h5; clear h1 h2 h5)
     | (go_at_call 23; obtain rfl : m6 = 4 := HM6.out; refine (placeOf_any A6 b0 b1 b2 b3 C6 w1 HBY).mono ?_; rintro e w2 ⟨rfl, rfl⟩; rw [HFV.out])
     | (go_at_call 24; have HBX1 := Lib.hid (HBX.out w1); (with_reducible refine (HRY.out _ (HB1.out.trans (HBX1.out.1.mono HB1.out.size))).mono ?_); rintro e w3 ⟨A7, m7, C7, rfl, h1, h2, h3, h4, h5⟩; have HM7 := Lib.hid h1; have HBY7 := Lib.hid h2; have HC7 := Lib.hid (And.intro h3 h4); have HB3 := Lib.hid h5; have HR3 := Lib.hid ((h5.block _ (Array.getElem?_eq_some_iff.1 HBX1.out.2).1).trans HBX1.out.2); have HBW3 : Hid (Below w.heap.size w w3) := Lib.hid ((HB1.out.trans (HBX1.out.1.mono HB1.out.size)).trans (h5.mono (HB1.out.trans (HBX1.out.1.mono HB1.out.size)).size)); clear h1 h2 h3 h4 h5))
    refine bodyPost_ret (results_tmp2U rfl _ _ _) rfl ?_
    rw [HOP.out]
    exact ⟨3, .inl rfl, rfl, HBW3.out⟩
  ·replace HOP : Hid (openP P = none) := Lib.hid (by rw [HOP.out, if_pos he2])
   have HRN : Hid (∀ w1, Below w.heap.size w w1 → Calls Tryd.prog 24 #[.slice A N cap, .int .i64 (foot : Int)] w1 fun e w' => ∃ kd A7 m7 C7 E, e = .returned (.tuple #[.int .u8 kd, .slice A7 m7 C7, .int .i64 E, .int .i64 (Pg.errAt P (foot : Int) : Nat)]) ∧ Below w1.heap.size w1 w') := Lib.hid fun w1 hb => (HRQ.out w1 hb).mono fun e w' ⟨A7, C7, h1, h2, h3, h4, h5⟩ => ⟨_, A7, _, C7, _, h1, h5⟩
   generalize Pg.errAt P (foot : Int) = c at *
   have hci : ((c : Int) == 0) = false := by rw [beq_eq_false_iff_ne]; omega
   have HCC : Hid (c = 3 ∨ c = 4) := Lib.hid (hee.resolve_left he2)
   clear hee he2 HRQ
   have hli := HLI.out
   go_enter Tryd.func7, Tryd.ntmps7
   go_wp2_with (first
    | (go_at_call 22; (with_reducible refine (HOY.out).mono ?_); rintro e w1 ⟨A6, m6, C6, rfl, h1, h2, h5⟩; have HM6 := Lib.hid h1; have HBY := Lib.hid h2; have HB1 := Lib.hid h5; clear h1 h2 h5)
    | (go_at_call 23; obtain rfl : m6 = 4 := HM6.out; refine (placeOf_any A6 b0 b1 b2 b3 C6 w1 HBY).mono ?_; rintro e w2 ⟨rfl, rfl⟩; rw [HFV.out])
    | (go_at_call 24; (with_reducible refine (HRN.out _ (HB1.out.trans ((HBX.out w1).1.mono HB1.out.size))).mono ?_); rintro e w3 ⟨kd, A7, m7, C7, E, rfl, h5⟩; have HB3 := Lib.hid h5; clear h5))
   refine bodyPost_ret (results_tmp2U rfl _ _ _) rfl ?_
   rw [HOP.out]
   exact ⟨c, HCC.out, rfl, (HB1.out.trans ((HBX.out w1).1.mono HB1.out.size)).trans (HB3.out.mono (HB1.out.trans ((HBX.out w1).1.mono HB1.out.size)).size)⟩
 ·replace HOP : Hid (openP P = none) := Lib.hid (by rw [HOP.out, if_pos he1])
  have HCC := Lib.hid (one_errS (P.drop la) 116 he1)
  have HON : Hid (Calls Tryd.prog 22 #[.slice A1 13 C1, .int .u8 116] w fun e w' => ∃ A6 m C6, e = .returned (.tuple #[.slice A6 m C6, .int .i64 (Pg.oneErr (P.drop la) 116 : Nat)]) ∧ Below w.heap.size w w') := Lib.hid ((HO1.out w (Below.refl _ _)).mono fun e w' ⟨A6, C6, h1, h2, h3, h4, h5⟩ => ⟨A6, _, C6, h1, h5⟩)
  generalize Pg.oneErr (P.drop la) 116 = c at *
  have hci : ((c : Int) == 0) = false := by rw [beq_eq_false_iff_ne]; omega
  clear he1 HO1 hlt
  have hli := HLI.out
  go_enter Tryd.func7, Tryd.ntmps7
  go_wp2_with (go_at_call 22; (with_reducible refine (HON.out).mono ?_); rintro e w1 ⟨A6, m, C6, rfl, h5⟩; have HB1 := Lib.hid h5; clear h5)
  refine bodyPost_ret (results_tmp2U rfl _ _ _) rfl ?_
  rw [HOP.out]
  exact ⟨c, HCC.out, rfl, HB1.out⟩
end Go.Proofs.YtifabkbdiiolfaaDoor
