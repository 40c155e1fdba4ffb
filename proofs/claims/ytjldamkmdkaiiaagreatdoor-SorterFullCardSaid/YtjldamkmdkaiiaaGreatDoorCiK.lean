/-
  Layer column: readPacked's function.
-/
import Derived.Test.YtjldamkmdkaiiaaGreatDoorCfK
import Derived.Test.YtjldamkmdkaiiaaGreatDoorTkK
set_option linter.unusedSimpArgs false
set_option linter.unusedVariables false
set_option maxRecDepth 8000
namespace Go.Proofs.YtjldamkmdkaiiaaGreatDoor
open Go.RowKit Go.WideShapes Col
namespace Col
def rdDelta (n : Nat) (q : List Nat) : Option (List Int × List Nat) := (runS dstep n (0, q)).map fun p => (p.1, p.2.2)
def rruns : Nat → List Nat → Option (List Int × List Nat)
 | 0, q => some ([], q)
 | m + 1, q => (zP q).bind fun p => (uP m p.2).bind fun r => (rruns (m - r.1) r.2).map fun t => (List.replicate (r.1 + 1) p.1 ++ t.1, t.2)
termination_by m => m
decreasing_by omega
theorem rruns_zero (q : List Nat) : rruns 0 q = some ([], q) := by rw [rruns]
theorem rruns_no1 {m : Nat} {q : List Nat} (h : zP q = none) : rruns (m + 1) q = none := by rw [rruns, h]; rfl
theorem rruns_no2 {m : Nat} {q r : List Nat} {x : Int} (h : zP q = some (x, r)) (h2 : uP m r = none) : rruns (m + 1) q = none := by rw [rruns, h]; simp [h2]
theorem rruns_yes {m k : Nat} {q r r2 : List Nat} {x : Int} (h : zP q = some (x, r)) (h2 : uP m r = some (k, r2)) : rruns (m + 1) q = (rruns (m - k) r2).map fun t => (List.replicate (k + 1) x ++ t.1, t.2) := by rw [rruns, h]; simp [h2]
end Col
theorem OwnI.more {w : World} {B n cap : Nat} {A : Option Addr} {l : List Int} {B' : Nat} (h : OwnI w B A n cap l) (hB : B' ≤ B) : OwnI w B' A n cap l := by
 refine ⟨⟨h.1.1, ?_⟩, h.2⟩
 rcases h.1.2 with h1 | ⟨g, cap', cur, h1, hb, h2⟩
 ·exact .inl h1
 ·exact .inr ⟨g, cap', cur, h1, Nat.le_trans hB hb, h2⟩
theorem ListEnds.lift {σ : Type} {g : Nat} {Sw : Nat → Prop} {St : σ → World → Prop} {o : Option (List Int × σ)} {w w2 w' : World} {e : Ending} (h : ListEnds g Sw St o w2 e w') (hb : Kept (Only g) w w2) (f : σ → List Nat) (hSt : ∀ s w', St s w' → RdM g (f s) w') (hS : ∀ k, Sw k → k = g ∨ w.heap.size ≤ k) :
  ListEnds g (Only g) (RdM g) (o.map fun p => (p.1, f p.2)) w e w' := by
 rcases o with _ | p
 ·obtain ⟨h1, h2, h3⟩ := h
  exact ⟨h1, h2, hb.trans' h3 hS⟩
 ·obtain ⟨⟨A, n, cap, he, ho⟩, h2, h3⟩ := h
  exact ⟨⟨A, n, cap, he, ho.more hb.size⟩, hSt _ _ h2, hb.trans' h3 hS⟩
set_option maxHeartbeats 2000000 in
theorem readDelta_any (g : Nat) (n : Nat) (hn : n ≤ 4096) (q : List Nat) (w : World) (H : Hid (RdM g q w)) :
  Calls Tryz.prog 175 #[.pointer (some ⟨g, 0, none⟩), .int .i64 (n : Int)] w (ListEnds g (Only g) (RdM g) (rdDelta n q) w) := by
 obtain ⟨w2, hw2⟩ : ∃ w2, w2 = (w.alloc (.cells #[.pointer (some ⟨g, 0, none⟩)] 138)).alloc (.cells #[.int .i64 0] 2) := ⟨_, rfl⟩
 have HW := Lib.hid hw2
 have HB : Hid (Below w.heap.size w w2) := Lib.hid (by rw [hw2]; exact ((Below.refl _ _).alloc (Nat.le_refl _) _).alloc (by simp) _)
 have hgl := H.out.1.glt
 have hsz : w2.heap.size = w.heap.size + 2 := by rw [hw2]; simp
 have HDS : Hid (DS g (w.heap.size + 1) w.heap.size (0, q) w2) := Lib.hid ⟨⟨H.out.1.high (S := fun _ => False) (Kept.of_below HB.out) fun k hk => hk.elim, H.out.2⟩, by rw [hw2]; exact heap_alloc2_new w _ _, by rw [hw2]; exact heap_alloc2_old w _ _, by omega, by omega, by omega⟩
 have ht := times_any dstep 191 #[] #[.pointer (some ⟨w.heap.size + 1, 0, none⟩), .pointer (some ⟨w.heap.size, 0, none⟩)] (fun _ _ => by first | rfl | kernel_rfl) n hn g (Two g (w.heap.size + 1)) (DS g (w.heap.size + 1) w.heap.size) w2
  (Lib.hid fun k hk => by rcases hk with hk | hk <;> omega)
  (Lib.hid fun s w1 w3 h hk => h.keep hk fun k hk => by have := h.blt; have := h.alt; exact .inr (by omega))
  (0, q) (Lib.hid fun _ _ s w1 _ _ h _ => delta_step g _ _ s.1 s.2 w1 (Lib.hid h)) HDS
 have HT := Lib.hid ht
 clear ht hw2
 rcases ho : rdDelta n q with _ | ⟨xs, r⟩
 ·have HO := Lib.hid ho
  clear ho
  go_enter Tryz.func175, Tryz.ntmps175
  go_wp2_with (go_at_call 173; rw [← HW.out]; refine (HT.out).mono ?_; intro e w3 h9; have h8 := h9.lift (Kept.of_below HB.out) (fun s => s.2) (fun s w' h => h.rd) (fun k hk => by rcases hk with hk | hk <;> omega); change ListEnds g (Only g) (RdM g) (rdDelta n q) w e w3 at h8; clear h9; rw [HO.out] at h8; obtain ⟨rfl, h1, h2⟩ := h8)
  exact ⟨rfl, rfl, h1, h2⟩
 ·have HO := Lib.hid ho
  clear ho
  go_enter Tryz.func175, Tryz.ntmps175
  go_wp2_with (go_at_call 173; rw [← HW.out]; refine (HT.out).mono ?_; intro e w3 h9; have h8 := h9.lift (Kept.of_below HB.out) (fun s => s.2) (fun s w' h => h.rd) (fun k hk => by rcases hk with hk | hk <;> omega); change ListEnds g (Only g) (RdM g) (rdDelta n q) w e w3 at h8; clear h9; rw [HO.out] at h8; obtain ⟨⟨A, n', cap, rfl, ho'⟩, h1, h2⟩ := h8; have HO' := Lib.hid ho'; have H1 := Lib.hid h1; have H2 := Lib.hid h2; clear ho' h1 h2)
  go_ret
  exact ⟨⟨A, n', cap, rfl, HO'.out⟩, H1.out, H2.out⟩
theorem Kept.of_grown {w w' : World} {r : Option Nat} (h : w.grownBy w' r) : Kept (fun k => r = some k) w w' := ⟨h.os, h.tape, h.output, h.size, fun k hk hn => h.block k hk fun e => hn (by first | exact e | exact e.symm)⟩
theorem RdM.high {g : Nat} {q : List Nat} {w w' : World} {S : Nat → Prop} (h : RdM g q w) (hk : Kept S w w') (hS : ∀ k, S k → g < k) : RdM g q w' := ⟨h.1.high hk hS, h.2⟩
theorem rep_snoc (l : List Int) (j : Nat) (x : Int) : (l ++ List.replicate j x) ++ [x] = l ++ List.replicate (j + 1) x := by
 rw [List.append_assoc]; congr 1
 rw [List.replicate_succ']
def RU (g n : Nat) (w : World) (q : List Nat) (v : Value) (wr : World) : Prop := ∃ (l : List Int) (L : Nat) (A : Option Addr) (cap : Nat) (q' : List Nat), v = .slice A L cap ∧ L = l.length ∧ L ≤ n ∧ OwnI wr w.heap.size A L cap l ∧ RdM g q' wr ∧ Kept (Only g) w wr ∧ rruns n q = (rruns (n - L) q').map fun t => (l ++ t.1, t.2)
def RV (g n : Nat) (w : World) (l : List Int) (L : Nat) (x : Int) (q : List Nat) (R : Nat) (u v : Value) (wr : World) : Prop := ∃ (j M : Nat) (A : Option Addr) (cap : Nat), j ≤ R ∧ v = .int .i64 (j : Int) ∧ u = .slice A M cap ∧ M = L + j ∧ OwnI wr w.heap.size A M cap (l ++ List.replicate j x) ∧ RdM g q wr ∧ Kept (Only g) w wr
set_option maxHeartbeats 4000000 in
theorem readRuns_any (g : Nat) (n : Nat) (hn : n ≤ 4096) (q : List Nat) (w : World) (H : Hid (RdM g q w)) :
  Calls Tryz.prog 176 #[.pointer (some ⟨g, 0, none⟩), .int .i64 (n : Int)] w (ListEnds g (Only g) (RdM g) (rruns n q) w) := by
 obtain ⟨iu, hiu, hz0, hz1, hz2⟩ := info_parts infoI64'
 have hzb : iu.bytes * n ≤ 281474976710656 := by rw [hz2]; omega
 have hnm : n ≤ maxLen := by unfold maxLen; omega
 have hgl := H.out.1.glt
 go_enter Tryz.func176, Tryz.ntmps176
 go_wp2_with (refine wpList_make_own _ rfl (.const (.int .i64 0)) (.tmp 8) 119 rfl w.heap.size 2 iu (.int .i64 0) 1 Tryz.underlying119 hiu hz0 hz1 .i64 .i64 _ n rfl rfl rfl hzb hnm (Nat.le_refl _) ?_; intro w1 own hgr; have HO : Hid (OwnI w1 w.heap.size (some ⟨w.heap.size, 0, none⟩) 0 n []) := Lib.hid ⟨own, fun x hx => by cases hx⟩; have HK : Hid (Kept (Only g) w w1) := Lib.hid ((Kept.of_grown hgr).mono fun k hk => by cases hk); have HRD : Hid (RdM g q w1) := Lib.hid (H.out.high (Kept.of_grown hgr) fun k hk => by cases hk); clear own hgr)
 have HST : Hid (RU g n w q (.slice (some ⟨w.heap.size, 0, none⟩) 0 n) w1) := Lib.hid ⟨[], 0, _, _, q, rfl, rfl, Nat.zero_le _, HO.out, HRD.out, HK.out, by
  rw [Nat.sub_zero]; rcases rruns n q with _ | t
  ·rfl
  ·simp⟩
 obtain ⟨b, hb⟩ : ∃ b, b = w.heap.size := ⟨_, rfl⟩
 rw [← hb] at HST ⊢
 have HBE := Lib.hid hb
 clear HO HK HRD hb
 go_loopw [5] (fun v wr => RU g n w q v wr) (fun v _ => n - lenOfS v)
 case atStart => exact HST.out
 case round =>
  obtain ⟨l, L, A, cap, q', rfl, hL, hLn, ho, hrd, hk, hrr⟩ := hrel
  have HO := Lib.hid ho; have HRD := Lib.hid hrd; have HK := Lib.hid hk; have HRR := Lib.hid hrr; have HL := Lib.hid hL
  clear ho hrd hk hrr hL HST
  by_cases hlt : L < n
  ·obtain ⟨M, hM⟩ : ∃ M, n - L = M + 1 := ⟨n - L - 1, by omega⟩
   have hd1 : (n : Int) - (L : Int) = ((M + 1 : Nat) : Int) := by omega
   have hd2 : ((M + 1 : Nat) : Int) - 1 = (M : Int) := by omega
   have hM96 : M ≤ 4096 := by omega
   have hmw : IntKind.u64.wrap (M : Int) = (M : Int) := by rw [IntKind.wrap_u64]; omega
   have hd3 : (n : Int) - (L : Int) - 1 = (M : Int) := by omega
   rw [hM] at HRR
   rcases hz : zP q' with _ | ⟨x, r⟩
   ·have HN : Hid (rruns n q = none) := Lib.hid (by rw [HRR.out, rruns_no1 hz]; rfl)
    have HI := Lib.hid (int_no g q' (Lib.hid hz) q'.length (Lib.hid rfl) HRD.out.2 wr (Lib.hid HRD.out.1))
    clear hz
    go_wp2_with (go_at_call 174; (with_reducible refine (HI.out).mono ?_); rintro e w2 ⟨rfl, h1, h2⟩)
    rw [HN.out]
    exact ⟨rfl, rfl, h1, HK.out.trans h2⟩
   ·have hI := int_yes g x q' r (Lib.hid hz) (by have := HRD.out.2; omega) wr (Lib.hid HRD.out.1)
    have HI := Lib.hid hI
    have HWX := Lib.hid (zP_wf hz HRD.out.1.lt)
    have HLR := Lib.hid (Nat.le_trans (zP_left hz) HRD.out.2)
    clear hI
    rcases hu : uP M r with _ | ⟨k, r2⟩
    ·have HN : Hid (rruns n q = none) := Lib.hid (by rw [HRR.out, rruns_no2 hz hu]; rfl)
     have HU := Lib.hid hu
     clear hz hu
     go_wp2_with (first
      | (go_at_call 174; (with_reducible refine (HI.out).mono ?_); rintro e w2 hy; obtain ⟨rfl, HR1, HK1⟩ := Yes.rd hy; clear hy)
      | (go_at_call 170; (refine (uint_no g M r HU r.length (Lib.hid rfl) HLR.out _ HR1).mono ?_); rintro e w3 ⟨rfl, h1, h2⟩))
     rw [HN.out]
     exact ⟨rfl, rfl, h1, (HK.out.trans HK1.out).trans h2⟩
    ·have HU := Lib.hid hu
     have HN : Hid (rruns n q = (rruns (M - k) r2).map fun t => (l ++ List.replicate (k + 1) x ++ t.1, t.2)) := Lib.hid (by
      rw [HRR.out, rruns_yes hz hu, Option.map_map]; congr 1; funext t; simp)
     have hkM := (uP_some hu).2
     have HLR2 := Lib.hid (Nat.le_trans (uP_left hu) HLR.out)
     obtain ⟨R, hR⟩ : ∃ R, R = k + 1 := ⟨_, rfl⟩
     have hRi : (1 : Int) + (k : Int) = (R : Int) := by omega
     have hki : IntKind.i64.wrap (k : Int) = (k : Int) := by rw [IntKind.wrap_i64]; omega
     rw [← hR] at HN
     have hLR : L + R ≤ n := by omega
     have hR1 : 1 ≤ R := by omega
     have HSUB : Hid (n - (L + R) = M - k) := Lib.hid (by omega)
     clear hz hu hR
     go_wp2_with (first
      | (go_at_call 174; (with_reducible refine (HI.out).mono ?_); rintro e w2 hy; obtain ⟨rfl, HR1, HK1⟩ := Yes.rd hy; clear hy)
      | (go_at_call 170; (refine (uint_yes g M k r r2 HU (by have := HLR.out; omega) _ HR1).mono ?_); rintro e w3 hy; obtain ⟨rfl, HR2, HK2⟩ := Yes.rd hy; clear hy))
     have HKA : Hid (Kept (Only g) wr w3) := Lib.hid (HK1.out.trans HK2.out)
     have HO3 : Hid (OwnI w3 w.heap.size A L cap l) := Lib.hid ⟨HO.out.1.kept (row := some g) ⟨HKA.out.os, HKA.out.tape, HKA.out.output, HKA.out.size, fun k hk' hn => HKA.out.block k hk' (fun e => hn (by rw [show k = g from e]))⟩ (by
      have hb := HO.out.base
      rcases A with _ | a
      ·simp [Value.ownBlock]
      ·have := hb a.block rfl
       simp [Value.ownBlock]; omega), HO.out.2⟩
     have HV : Hid (RV g n w l L x r2 R (.slice A L cap) (.int .i64 0) w3) := Lib.hid ⟨0, L, A, cap, Nat.zero_le _, rfl, rfl, rfl, by simpa using HO3.out, ⟨HR2.out, HLR2.out⟩, HK.out.trans HKA.out⟩
     clear HI HR1 HK1 HR2 HK2 HKA HO3 HO HRD hd1 hd2 hd3 hmw hki
     go_loopw [5, 27] (fun u v wk => RV g n w l L x r2 R u v wk) (fun _ v _ => R - (intOf v).toNat)
     case atStart => exact HV.out
     case round =>
      obtain ⟨j, N, A2, c2, hj, rfl, rfl, hN, ho, hrd, hk⟩ := hrel
      have HO2 := Lib.hid ho; have HRD2 := Lib.hid hrd; have HK2 := Lib.hid hk
      have HNE := Lib.hid hN
      have hN4 : N ≤ 4096 := by omega
      clear ho hrd hk HV hN
      by_cases hjR : j < R
      ·have HAX := Lib.hid (is_one wr x HWX.out)
       have HOX := Lib.hid (HO2.out.keep ((Below.refl _ _).alloc (Nat.le_refl _) (.cells #[.int .i64 x] 2)))
       have HBB := Lib.hid ((Below.refl wr.heap.size wr).alloc (Nat.le_refl _) (.cells #[.int .i64 x] 2))
       have hbs : w.heap.size ≤ (wr.alloc (.cells #[.int .i64 x] 2)).heap.size := Nat.le_trans HK2.out.size HBB.out.size
       go_wp2_with (refine wpList_append_is rfl (.tmp 29) (.tmp 31) rfl w.heap.size A2 N c2 _ rfl HOX.out ⟨wr.heap.size, 0, none⟩ 1 1 [x] rfl rfl HAX.out (by omega) hbs ?_; intro A3 c3 w4 ho hg; have HO4 := Lib.hid ho; have HK4 : Hid (Kept (fun k => A2.map (·.block) = some k) (wr.alloc (.cells #[.int .i64 x] 2)) w4) := Lib.hid (Kept.of_grown hg); clear ho hg)
       have hb2 := HO2.out.base
       go_roundw
       case rel => exact ⟨j + 1, N + 1, A3, c3, by omega, by go_num, rfl, by have := HNE.out; omega, by rw [← rep_snoc]; exact HO4.out, (HRD2.out.high (Kept.of_below HBB.out) (S := fun _ => False) fun k hk => hk.elim).high HK4.out fun k hk => by have := hb2 k hk; omega, (HK2.out.trans (Kept.of_below HBB.out)).trans' HK4.out fun k hk => .inr (hb2 k hk)⟩
       case measure => simp [intOf]; omega
      ·obtain rfl : j = R := by omega
       go_wp2
       go_roundw
       case rel => exact ⟨l ++ List.replicate j x, N, A2, c2, r2, rfl, by rw [List.length_append, List.length_replicate, ← HL.out]; exact HNE.out, by have := HNE.out; omega, HO2.out, HRD2.out, HK2.out, by rw [HN.out, HNE.out, HSUB.out]⟩
       case measure => have := HNE.out; simp [lenOfS]; omega
  ·obtain rfl : L = n := by omega
   have HN : Hid (rruns L q = some (l, q')) := Lib.hid (by rw [HRR.out, Nat.sub_self, rruns_zero]; simp)
   go_wp2
   go_ret
   rw [HN.out]
   exact ⟨⟨A, L, cap, rfl, HO.out⟩, HRD.out, HK.out⟩
namespace Col
def atI (i W : Nat) : Int := (i : Int) * (W : Int) - (W : Int)
theorem atI_add (i W : Nat) : atI i W + (W : Int) = ((i * W : Nat) : Int) := by unfold atI; rw [Int.natCast_mul]; omega
theorem atI_next (i W : Nat) : atI (i + 1) W = ((i * W : Nat) : Int) := by unfold atI; rw [Int.natCast_mul, Int.natCast_add, Int.add_mul]; simp
theorem atI_zero (W : Nat) : atI 0 W = -(W : Int) := by unfold atI; simp
def pval (W V : Nat) (mn : Int) (i : Nat) : Int := wrap64 (mn + IntKind.i64.wrap ((bitsAt V (i * W) W : Nat) : Int))
def pstep (W V : Nat) (mn : Int) (s : Nat × List Nat) : Option (Int × (Nat × List Nat)) := some (pval W V mn s.1, (s.1 + 1, s.2))
theorem prun (W V : Nat) (mn : Int) (r : List Nat) : ∀ k, runS (pstep W V mn) k (0, r) = some ((List.range k).map (pval W V mn), (k, r))
 | 0 => rfl
 | k + 1 => by rw [runS, prun W V mn r k]; simp [pstep, List.range_succ]
end Col
attribute [irreducible] atI
structure PS (g ca cw cl cp W K C V : Nat) (A : Option Addr) (mn : Int) (s : Nat × List Nat) (w : World) : Prop where
 rd : RdM g s.2 w
 ra : w.heap[ca]? = some (.cells #[.int .i64 (atI s.1 W)] 3 (0, 0))
 rw : w.heap[cw]? = some (.cells #[.int .i64 (W : Int)] 3 (0, 0))
 rl : w.heap[cl]? = some (.cells #[.int .i64 mn] 2 (0, 0))
 rp : w.heap[cp]? = some (.cells #[.slice A K C] 32 (0, 0))
 bytes : ByAt w A (leb K V)
 low : ∀ a, A = some a → 0 < (leb K V).length → a.block < g
 n1 : g < ca
 n2 : g < cw
 n3 : g < cl
 n4 : g < cp
 n5 : ca ≠ cw
 n6 : ca ≠ cl
 n7 : ca ≠ cp
section
variable {g ca cw cl cp W K C V : Nat} {A : Option Addr} {mn : Int} {s : Nat × List Nat} {w w' : World}
theorem PS.keep {S : Nat → Prop} (h : PS g ca cw cl cp W K C V A mn s w) (hk : Kept S w w') (hS : ∀ k, S k → g < k ∧ k ≠ ca ∧ k ≠ cw ∧ k ≠ cl ∧ k ≠ cp) : PS g ca cw cl cp W K C V A mn s w' :=
 ⟨h.rd.high hk fun k hs => (hS k hs).1, hk.heap h.ra fun e => (hS _ e).2.1 rfl, hk.heap h.rw fun e => (hS _ e).2.2.1 rfl, hk.heap h.rl fun e => (hS _ e).2.2.2.1 rfl, hk.heap h.rp fun e => (hS _ e).2.2.2.2 rfl,
  h.bytes.kept hk fun a ha h0 hs => by have := h.low a ha h0; have := (hS _ hs).1; omega, h.low, h.n1, h.n2, h.n3, h.n4, h.n5, h.n6, h.n7⟩
theorem PS.c_ca (h : PS g ca cw cl cp W K C V A mn s w) : w.cell? ⟨ca, 0, none⟩ = some (.int .i64 (atI s.1 W)) := by rw [cell_of_row _ _ _ _ _ _ h.ra]; rfl
theorem PS.c_cw (h : PS g ca cw cl cp W K C V A mn s w) : w.cell? ⟨cw, 0, none⟩ = some (.int .i64 (W : Int)) := by rw [cell_of_row _ _ _ _ _ _ h.rw]; rfl
theorem PS.c_cl (h : PS g ca cw cl cp W K C V A mn s w) : w.cell? ⟨cl, 0, none⟩ = some (.int .i64 mn) := by rw [cell_of_row _ _ _ _ _ _ h.rl]; rfl
theorem PS.c_cp (h : PS g ca cw cl cp W K C V A mn s w) : w.cell? ⟨cp, 0, none⟩ = some (.slice A K C) := by rw [cell_of_row _ _ _ _ _ _ h.rp]; rfl
theorem PS.lts (h : PS g ca cw cl cp W K C V A mn s w) : ca < w.heap.size ∧ cw < w.heap.size ∧ cl < w.heap.size ∧ cp < w.heap.size := ⟨(Array.getElem?_eq_some_iff.1 h.ra).1, (Array.getElem?_eq_some_iff.1 h.rw).1, (Array.getElem?_eq_some_iff.1 h.rl).1, (Array.getElem?_eq_some_iff.1 h.rp).1⟩
theorem PS.put {i : Nat} {r : List Nat} (h : PS g ca cw cl cp W K C V A mn (i, r) w) : PS g ca cw cl cp W K C V A mn (i + 1, r) (w.setCell ⟨ca, 0, none⟩ (.int .i64 ((i * W : Nat) : Int))) := by
 have hk : Kept (fun k => k = ca) w (w.setCell ⟨ca, 0, none⟩ (.int .i64 ((i * W : Nat) : Int))) := (Kept.refl _ _).setCell _ _ (.inl rfl)
 refine ⟨h.rd.high hk fun k hs => by have hs : k = ca := hs; have := h.n1; omega, ?_, hk.heap h.rw fun e => h.n5 e.symm, hk.heap h.rl fun e => h.n6 e.symm, hk.heap h.rp fun e => h.n7 e.symm, h.bytes.kept hk fun a ha h0 hs => by have := h.low a ha h0; have := h.n1; have hs : a.block = ca := hs; omega, h.low, h.n1, h.n2, h.n3, h.n4, h.n5, h.n6, h.n7⟩
 have h1 := h.ra
 rw [World.setCell, atI_next]; simp [Array.getElem?_modify, h1]
end
theorem i64_wrap (n : Int) : IntKind.i64.wrap n = wrap64 n := by unfold wrap64; rw [IntKind.wrap_i64]
theorem pv_eq (W V : Nat) (mn : Int) (i at' : Nat) (h : at' = i * W) : wrap64 (mn + IntKind.i64.wrap ((bitsAt V at' W : Nat) : Int)) = pval W V mn i := by subst h; rfl
set_option maxHeartbeats 2000000 in
theorem packed_step (g ca cw cl cp W K C V : Nat) (A : Option Addr) (mn : Int) (i : Nat) (r : List Nat) (hW : W ≤ 64) (hK : K ≤ 100000000) (hi : i * W + W ≤ 8 * K) (hV : Hid (V < 2 ^ (8 * K))) (w : World) (H : Hid (PS g ca cw cl cp W K C V A mn (i, r) w)) :
  Calls Tryz.prog 192 #[.pointer (some ⟨ca, 0, none⟩), .pointer (some ⟨cw, 0, none⟩), .pointer (some ⟨cl, 0, none⟩), .pointer (some ⟨cp, 0, none⟩)] w (StepEnds g (Two g ca) (PS g ca cw cl cp W K C V A mn) (pstep W V mn (i, r)) w) := by
 have c1 := H.out.c_ca
 have c2 := H.out.c_cw
 have f1 : w.frozen? ⟨ca, 0, none⟩ = false := row_frozen H.out.ra 0
 obtain ⟨at', hat⟩ : ∃ at', at' = i * W := ⟨_, rfl⟩
 have HAT := Lib.hid hat
 have hadd : atI i W + (W : Int) = (at' : Int) := by rw [hat]; exact atI_add i W
 rw [← hat] at hi
 have HP2 := Lib.hid H.out.put
 rw [← hat] at HP2
 have HK : Hid (Kept (Two g ca) w (w.setCell ⟨ca, 0, none⟩ (.int .i64 (at' : Int)))) := Lib.hid ((Kept.refl _ _).setCell _ _ (.inl (.inr rfl)))
 have hat9 : at' ≤ 800000000 := by omega
 clear hat
 go_enter Tryz.func192, Tryz.ntmps192
 go_upto_region 2 with fail
 generalize hw9 : w.setCell ⟨ca, 0, none⟩ (.int .i64 (at' : Int)) = w9 at *
 clear c1 c2 f1
 have HL := Lib.hid HP2.out.lts
 have HCA : Hid (w9.cell? ⟨ca, 0, none⟩ = some (.int .i64 (at' : Int))) := Lib.hid (by have := HP2.out.c_ca; rwa [atI_next, ← HAT.out] at this)
 have HCW := Lib.hid HP2.out.c_cw; have HCL := Lib.hid HP2.out.c_cl; have HCP := Lib.hid HP2.out.c_cp
 have HGB := Lib.hid (getBits_any A K C V at' W hW hK hi hV w9.drew (Lib.hid (HP2.out.bytes.keep ((Below.refl _ _).drew))))
 refine wp_region_held_drew (S := fun w' => Below w9.heap.size w9 w') (by kernel_rfl) ((Below.refl _ _).drew) (fun hHeld => ?_)
 refine tk 0 (.int .i64 mn) rfl (Or.inl ⟨by rfl, fun w hw => by have hc : w.cell? ⟨cl, 0, none⟩ = some (.int .i64 mn) := (hw.cell (p := ⟨cl, 0, none⟩) HL.out.2.2.1).trans HCL.out; go_simp⟩) hHeld ?_
 try simp only [qz]
 refine tk 1 (.slice A K C) rfl (Or.inl ⟨by rfl, fun w hw => by have hc : w.cell? ⟨cp, 0, none⟩ = some (.slice A K C) := (hw.cell (p := ⟨cp, 0, none⟩) HL.out.2.2.2).trans HCP.out; go_simp⟩) hHeld ?_
 try simp only [qz]
 refine tk 2 (.int .i64 (at' : Int)) rfl (Or.inl ⟨by rfl, fun w hw => by have hc : w.cell? ⟨ca, 0, none⟩ = some (.int .i64 (at' : Int)) := (hw.cell (p := ⟨ca, 0, none⟩) HL.out.1).trans HCA.out; go_simp⟩) hHeld ?_
 try simp only [qz]
 refine tk 3 (.int .i64 (W : Int)) rfl (Or.inl ⟨by rfl, fun w hw => by have hc : w.cell? ⟨cw, 0, none⟩ = some (.int .i64 (W : Int)) := (hw.cell (p := ⟨cw, 0, none⟩) HL.out.2.1).trans HCW.out; go_simp⟩) hHeld ?_
 try simp only [qz]
 refine rd1 4 rfl (fun K hK => ?_)
 go_simp
 refine (HGB.out).mono ?_
 rintro e w10 ⟨rfl, rfl⟩
 refine hK.out _ _ hHeld (fun hHeld => ?_)
 clear hK K
 try simp only [qz]
 refine rd1 5 rfl (fun K hK => ?_)
 go_simp
 refine hK.out _ _ hHeld (fun hHeld => ?_)
 clear hK K
 try simp only [qz]
 refine rd1 6 rfl (fun K hK => ?_)
 go_simp
 refine hK.out _ _ hHeld (fun hHeld => ?_)
 clear hK K
 try simp only [qz]
 refine rd1 7 rfl (fun K hK => ?_)
 go_simp
 refine hK.out _ _ hHeld (fun hHeld => ?_)
 clear hK K
 try simp only [qz]
 refine wpAnyH_done (by kernel_rfl) ?_ _
 have HBX := Lib.hid hHeld
 go_wp2
 go_ret
 refine ⟨?_, wrap64_wf' _, HP2.out.keep (S := fun _ => False) (Kept.of_below HBX.out) fun k hk => hk.elim, HK.out.trans (Kept.of_below HBX.out)⟩
 exact ret_i64 ((i64_wrap _).trans (pv_eq W V mn i at' HAT.out))
end Go.Proofs.YtjldamkmdkaiiaaGreatDoor
