/-
  Layer segment: event.Read of a page in the midst; (*Segment).rowsOf.
-/
import Derived.Test.YtifabkbdiiolfaaGreatDoorYzK
import Derived.Test.YtifabkbdiiolfaaGreatDoorYkK
open List renaming getElem_toArray → qz0, getElem_cons_zero → qz1, getElem_cons_succ → qz2, setIfInBounds_toArray → qz3, set_cons_zero → qz4, set_cons_succ → qz5
set_option linter.unusedSimpArgs false
set_option linter.unusedVariables false
set_option maxRecDepth 8000
namespace Go.Proofs.YtifabkbdiiolfaaGreatDoor
open Go.RowKit Go.Sort Go.WideShapes Col
theorem page_factsT (l tl : List Nat) (n m kind : Nat) (body : List Nat) (hn : n = l.length) (hm : m = body.length) (hk : kind < 256) (hb : ∀ x ∈ body, x < 256) (hs : m ≤ 1048576) :
  Pg.errAt (l ++ (Pg.lay kind body ++ tl)) (n : Int) = 0 ∧ Pg.kindAt (l ++ (Pg.lay kind body ++ tl)) (n : Int) = kind ∧ Pg.bodyAt (l ++ (Pg.lay kind body ++ tl)) (n : Int) = body ∧ Pg.endAt (l ++ (Pg.lay kind body ++ tl)) (n : Int) = (n : Int) + 5 + (m : Int) + 4 := by
 obtain ⟨h1, h2, h3, h4⟩ := Pg.read_lay l kind body tl (n : Int) (by rw [hn]) hk hb (by omega)
 exact ⟨h1, h2, h3, by rw [h4, ← hm]; omega⟩
set_option maxHeartbeats 2000000 in
theorem evFn_anyL (g bp bl : Nat) (l : List Ev) (hn6 : l.length ≤ 64) (hfin : Hid (∀ x ∈ l, FineE x)) (hw : ∀ x ∈ evY l, x < 256) (p : Int) (w : World) (hbp : bp < g) (hbl : bl < g) (hne : bp ≠ bl)
  (HP : Hid (w.heap[bp]? = some (.cells #[.int .i64 p] 3 (0, 0)))) (HL : Hid (w.heap[bl]? = some (.cells #[.slice none 0 0] 22 (0, 0)))) (H : Hid (Rd w g (evY l))) :
  Calls Tryz.prog 110 #[.pointer (some ⟨g, 0, none⟩), .pointer (some ⟨bp, 0, none⟩), .pointer (some ⟨bl, 0, none⟩)] w (Tried g (fun k => k = bl) (RER l p bl (fun k => k ≤ g)) w) := by
 have HRE := Lib.hid (readEv_any g l hn6 hfin hw p w H)
 have cp : w.cell? ⟨bp, 0, none⟩ = some (.int .i64 p) := by rw [cell_of_row _ _ _ _ _ _ HP.out]; rfl
 have hbw : bl < w.heap.size := (Array.getElem?_eq_some_iff.1 HL.out).1
 have hgw : g < w.heap.size := by obtain ⟨A, C, h⟩ := H.out; exact h.lt
 by_cases hall : ∀ x ∈ l, formB x p = true
 ·have HRY : Hid (Calls Tryz.prog 111 #[.pointer (some ⟨g, 0, none⟩), .int .i64 p] w fun e w' => ∃ L n, e = .returned (.slice (some ⟨L, 0, none⟩) n n) ∧ n = l.length ∧ EvAt w' (some ⟨L, 0, none⟩) (l.map canE) ∧ Rd w' g [] ∧ Kept (Only g) w w' ∧ w.heap.size ≤ L) := Lib.hid (HRE.out.mono fun e w' h => by
   rcases h with ⟨-, h⟩ | ⟨⟨x, hx, hfx⟩, -⟩
   ·exact h
   ·rw [hall x hx] at hfx; cases hfx)
  clear HRE
  go_enter Tryz.func110, Tryz.ntmps110
  go_wp2_with (go_at_call 111; (with_reducible refine (HRY.out).mono ?_); rintro e w1 ⟨L, n, rfl, h1, h2, h3, h4, h5⟩; have HN := Lib.hid h1; have HE := Lib.hid h2; have HR := Lib.hid h3; have HK := Lib.hid h4; have HLL := Lib.hid h5; have HL1 := Lib.hid (h4.heap HL.out (fun e => by have e : bl = g := e; omega)); have cl : w1.cell? ⟨bl, 0, none⟩ = some (.slice none 0 0) := (by rw [cell_of_row _ _ _ _ _ _ HL1.out]; rfl); have fl := row_frozen HL1.out 0; clear h1 h2 h3 h4 h5)
  have hkc : Kept (fun k => k = bl) w1 (w1.setCell ⟨bl, 0, none⟩ (.slice (some ⟨L, 0, none⟩) n n)) := (Kept.refl _ _).setCell _ _ (.inl rfl)
  refine bodyPost_ret (results_none rfl _ _ _) rfl ⟨?_, .inl ⟨[], rfl, ?_, ?_⟩⟩
  ·exact (HK.out.mono (S' := fun k => k = bl ∨ k = g) (fun k h => .inl (.inr h))).trans' hkc (fun i hi => .inl (.inl hi))
  ·exact HR.out.keptLowY hkc (by omega) (fun e => by omega)
  ·refine .inl ⟨hall, rfl, L, n, ?_, HN.out, HE.out.keptY hkc (fun b hb => by injection hb with hb; subst hb; intro e; have e : L = bl := e; have := HLL.out; omega), fun e => by have e : L ≤ g := e; have := HLL.out; omega⟩
   rw [World.setCell]
   simp [Array.getElem?_modify, HL1.out]
 ·have hbad : ∃ x ∈ l, formB x p = false := by
   rcases Classical.not_forall.1 hall with ⟨x, hx⟩
   rw [Classical.not_imp] at hx
   exact ⟨x, hx.1, by simpa using hx.2⟩
  have HRN : Hid (Calls Tryz.prog 111 #[.pointer (some ⟨g, 0, none⟩), .int .i64 p] w fun e w' => e = .panicked [gu g] ∧ Gone w' g ∧ Kept (Only g) w w') := Lib.hid (HRE.out.mono fun e w' h => by
   rcases h with ⟨h, -⟩ | ⟨-, h⟩
   ·exact absurd h hall
   ·exact h)
  clear HRE
  go_enter Tryz.func110, Tryz.ntmps110
  go_wp2_with (go_at_call 111; (with_reducible refine (HRN.out).mono ?_); rintro e w1 ⟨rfl, h1, h2⟩)
  exact ⟨rfl, h2.mono (fun k h => .inl (.inr h)), .inr ⟨rfl, h1, .inr ⟨hbad, rfl⟩⟩⟩
theorem rer_yesL {l : List Ev} {p : Int} {bl : Nat} {X : Nat → Prop} {b : Bool} {w : World} (hall : ∀ x ∈ l, formB x p = true) (h : RER l p bl X b w) : b = true ∧ ∃ L, w.heap[bl]? = some (.cells #[.slice (some ⟨L, 0, none⟩) l.length l.length] 22 (0, 0)) ∧ EvAt w (some ⟨L, 0, none⟩) (l.map canE) ∧ ¬ X L := by
 rcases h with ⟨-, h, L, n, h1, h2, h3, h4⟩ | ⟨⟨x, hx, hfx⟩, -⟩
 ·exact ⟨h, L, h2 ▸ h1, h3, h4⟩
 ·rw [hall x hx] at hfx; cases hfx
theorem rer_keepL {l : List Ev} {p : Int} {bl g B : Nat} {b : Bool} {w w' : World} (h : RER l p bl (fun k => k ≤ g) b w) (hk : Kept (Only g) w w') (hg : bl < g) (hB : B ≤ g) : RER l p bl (fun k => k < B) b w' := by
 rcases h with ⟨h1, h2, L, n, h3, h4, h5, h6⟩ | h
 ·refine .inl ⟨h1, h2, L, n, hk.heap h3 (fun e => by have e : bl = g := e; omega), h4, h5.keptY hk (fun b hb => ?_), fun h => h6 (by show L ≤ g; have h : L < B := h; omega)⟩
  injection hb with hb
  subst hb
  intro e
  have e : L = g := e
  exact h6 (by show L ≤ g; omega)
 ·exact .inr h
set_option maxHeartbeats 8000000 in
theorem evRead_mid (A : Option Addr) (N cap np : Nat) (q tl : List Nat) (l : List Ev) (p : Int) (hn6 : l.length ≤ 64) (hfin : Hid (∀ x ∈ l, FineE x)) (hall : ∀ x ∈ l, formB x p = true) (hq : Hid (np = q.length)) (hw : ∀ x ∈ evY l, x < 256) (hN : Hid (N = (q ++ (Pg.lay 101 (evY l) ++ tl)).length)) (hc : N ≤ cap) (hcm : cap ≤ maxLen) (w : World) (HA : Hid (ByAt w A (q ++ (Pg.lay 101 (evY l) ++ tl)))) (HG : Hid (HalvesAt w)) :
  Calls Tryz.prog 83 #[.slice A N cap, .int .i64 (np : Int), .int .i64 p] w fun e w' => ∃ L, e = .returned (.tuple #[.slice (some ⟨L, 0, none⟩) l.length l.length, .int .i64 ((np : Int) + 5 + ((evY l).length : Int) + 4), .int .i64 0]) ∧ EvAt w' (some ⟨L, 0, none⟩) (l.map canE) ∧ Below w.heap.size w w' ∧ w.heap.size ≤ L := by
 have hle := evY_le l hfin.out hn6
 obtain ⟨m, hm⟩ : ∃ m, m = (evY l).length := ⟨_, rfl⟩
 obtain ⟨f1, f2, f3, f4⟩ := page_factsT q tl np m 101 (evY l) hq.out hm (by decide) hw (by omega)
 obtain ⟨E, hE⟩ : ∃ E : Int, E = (np : Int) + 5 + (m : Int) + 4 := ⟨_, rfl⟩
 have HPR : Hid (∀ w1, Below w.heap.size w w1 → Calls Tryz.prog 45 #[.slice A N cap, .int .i64 (np : Int)] w1 fun e w' => ∃ A6 C6, e = .returned (.tuple #[.int .u8 101, .slice A6 m C6, .int .i64 E, .int .i64 0]) ∧ ByAt w' A6 (evY l) ∧ m ≤ C6 ∧ C6 ≤ maxLen ∧ Below w1.heap.size w1 w') := Lib.hid fun w1 hb => by
  refine (read_any A _ N cap np hN hc hcm w1 (Lib.hid (HA.out.keep hb)) (Lib.hid (HG.out.keep hb))).mono fun e w' h => ?_
  obtain ⟨A6, C6, he, h1, h2, h3, h4⟩ := h
  rw [f3] at h1 h2 he
  rw [f1, f2, f4, ← hm, ← hE] at he
  exact ⟨A6, C6, he, h1, by omega, h3, h4⟩
 rw [← hm, ← hE]
 obtain ⟨w0, hw0⟩ : ∃ w0, w0 = w.alloc (.cells #[.int .i64 p] 3) := ⟨_, rfl⟩
 obtain ⟨bp, hbp⟩ : ∃ bp, bp = w.heap.size := ⟨_, rfl⟩
 have HB0 : Hid (Below w.heap.size w w0) := Lib.hid (by rw [hw0]; exact (Below.refl _ _).alloc (Nat.le_refl _) _)
 have HP0 : Hid (w0.heap[bp]? = some (.cells #[.int .i64 p] 3 (0, 0))) := Lib.hid (by rw [hw0, hbp]; exact alloc_newY w _)
 have HW0 := Lib.hid hw0; have HBP := Lib.hid hbp; have HM := Lib.hid hm
 clear f1 f2 f3 f4 hE hw0 hbp hm hle
 go_enter Tryz.func83, Tryz.ntmps83
 go_upto_region 1 with fail
 rw [← HW0.out, ← HBP.out]
 go_upto_region 5 with (go_at_call 45; (with_reducible refine (HPR.out w0 HB0.out).mono ?_); rintro e w1 ⟨A6, C6, rfl, h1, h2, h3, h4⟩; have HBY := Lib.hid h1; have hC6 := h2; have hM6 := h3; have HB1 := Lib.hid (below_to HB0.out h4); have HP1 : Hid (w1.heap[bp]? = some (.cells #[.int .i64 p] 3 (0, 0))) := Lib.hid ((h4.block bp (Array.getElem?_eq_some_iff.1 HP0.out).1).trans HP0.out); clear h1 h2 h3 h4)
 obtain ⟨w2, hw2⟩ : ∃ w2, w2 = w1.alloc (.cells #[.slice none 0 0] 22) := ⟨_, rfl⟩
 obtain ⟨bl, hbl⟩ : ∃ bl, bl = w1.heap.size := ⟨_, rfl⟩
 have hb2 : Below w1.heap.size w1 w2 := by rw [hw2]; exact (Below.refl _ _).alloc (Nat.le_refl _) _
 have HBW := Lib.hid (below_to HB1.out hb2)
 have HL2 : Hid (w2.heap[bl]? = some (.cells #[.slice none 0 0] 22 (0, 0))) := Lib.hid (by rw [hw2, hbl]; exact alloc_newY w1 _)
 have hbpl : bp < bl := by rw [hbl]; exact (Array.getElem?_eq_some_iff.1 HP1.out).1
 have HP2 : Hid (w2.heap[bp]? = some (.cells #[.int .i64 p] 3 (0, 0))) := Lib.hid ((hb2.block bp (by omega)).trans HP1.out)
 have hblw : bl < w2.heap.size := (Array.getElem?_eq_some_iff.1 HL2.out).1
 have HBL : Hid (w.heap.size ≤ bl) := Lib.hid (by rw [hbl]; exact HB1.out.size)
 have ht := try_any 110 #[] #[.pointer (some ⟨bp, 0, none⟩), .pointer (some ⟨bl, 0, none⟩)] A6 C6 (evY l) m HM hC6 hM6 w2 (Lib.hid (HBY.out.keep hb2)) (fun k => k = bl) (fun k hk => by omega)
  (fun g b w' => RER l p bl (fun k => k ≤ g) b w') (fun b w' => RER l p bl (fun k => k < w.heap.size) b w')
  (fun g b v2 v3 hg h hk => rer_keepL h hk (by omega) (Nat.le_trans HBW.out.size hg))
  (fun g v2 hg hr hb => evFn_anyL g bp bl l hn6 hfin hw p v2 (by omega) (by omega) (by omega) (Lib.hid ((hb.block bp (by omega)).trans HP2.out)) (Lib.hid ((hb.block bl hblw).trans HL2.out)) (Lib.hid hr))
  (fun _ _ => by first | rfl | kernel_rfl)
 have HT := Lib.hid ht
 have HW2 := Lib.hid hw2; have HBLL := Lib.hid hbl
 have hmf : ∀ (fn : Fn) (first cap : Array Value) (w : World), (Instr.makeFunc fn first cap).run Tryz.prog w = .ok (.func fn first cap) w := fun _ _ _ _ => rfl
 clear ht hw2 hbl hb2 hblw hbpl HPR HB0 HP0 HW0 HBP HBY
 rw [← HW2.out, ← HBLL.out]
 go_wp2_with (go_at_call 46; (with_reducible refine (HT.out).mono ?_); rintro e w8 ⟨b, rfl, hr, hk⟩; have hr2 := rer_yesL hall hr; obtain ⟨rfl, L, hrow, hev, hlow⟩ := hr2; have HLOW : Hid (w.heap.size ≤ L) := Lib.hid (by omega); have HE8 := Lib.hid hev; have HB8 := Lib.hid hk; have cl : w8.cell? ⟨bl, 0, none⟩ = some (.slice (some ⟨L, 0, none⟩) l.length l.length) := (by rw [cell_of_row _ _ _ _ _ _ hrow]; rfl); clear hr hrow hev hk hlow)
 refine bodyPost_ret (results_tmp3Y rfl _ _ _) rfl ?_
 exact ⟨L, rfl, HE8.out, (HBW.out.trans (HB8.out.below HBW.out.size (fun k hk => by have hk : k = bl := hk; have := HBL.out; omega))), HLOW.out⟩
set_option maxHeartbeats 8000000 in
theorem rowsOf_any (bs p foot : Nat) (A : Option Addr) (n cap : Nat) (g off n2 c2 : Nat) (cs : List Ck) (hn2 : Hid (n2 = cs.length)) (hn29 : n2 ≤ 1000000) (i : Nat) (c : Ck) (hc : Hid (cs[i]? = some c)) (rows : List Ev) (hr0 : 0 < rows.length) (hr6 : rows.length ≤ 64) (w : World)
  (HSG : Hid (w.heap[bs]? = some (.cells #[.slice A n cap, .int .i64 (p : Int), .slice (some ⟨g, off, none⟩) n2 c2, .int .i64 (foot : Int)] 90 (0, 0)))) (HC : Hid (CkAt w (some ⟨g, off, none⟩) cs))
  (HRD : Hid (∀ w1, Below w.heap.size w w1 → Calls Tryz.prog 83 #[.slice A n cap, .int .i64 (c.pl : Int), .int .i64 (p : Int)] w1 fun e w' => ∃ L m, e = .returned (.tuple #[.slice (some ⟨L, 0, none⟩) m m, .int .i64 (endB cs foot i : Nat), .int .i64 0]) ∧ m = rows.length ∧ EvAt w' (some ⟨L, 0, none⟩) rows ∧ Below w1.heap.size w1 w' ∧ w1.heap.size ≤ L))
  (hck : Hid (chkL (p : Int) none rows = 0)) (hcc : Hid (ckOf rows c.pl = c)) :
  Calls Tryz.prog 50 #[.pointer (some ⟨bs, 0, none⟩), .int .i64 (i : Int)] w fun e w' => ∃ L m, e = .returned (.tuple #[.slice (some ⟨L, 0, none⟩) m m, .int .i64 0]) ∧ m = rows.length ∧ EvAt w' (some ⟨L, 0, none⟩) rows ∧ Below w.heap.size w w' ∧ w.heap.size ≤ L := by
 have hi : i < n2 := by have := (List.getElem?_eq_some_iff.1 hc.out).1; have := hn2.out; omega
 have hii : (i : Int) < (n2 : Int) := by omega
 obtain ⟨g', off', e0, hg, hrg⟩ := ckr HC.out i c hc.out
 injection e0 with e0; injection e0 with e1 e2; subst e1; subst e2
 have cb2 : w.cell? ⟨bs, 2, none⟩ = some (.slice (some ⟨g, off, none⟩) n2 c2) := by rw [cell_of_row _ _ _ _ _ _ HSG.out]; rfl
 have HRG : Hid (w.rangeAt g (off + i * 8) [.int .i64 (c.rows : Int), .int .i64 (c.pl : Int), .int .u64 (c.oa : Int), .int .u64 (c.ob : Int), .int .i64 c.ta, .int .i64 c.tz, .string c.ka, .string c.kz]) := Lib.hid hrg
 obtain ⟨v1, hv1⟩ : ∃ v1, v1 = w.alloc (.cells #[.int .i64 (c.rows : Int), .int .i64 (c.pl : Int), .int .u64 (c.oa : Int), .int .u64 (c.ob : Int), .int .i64 c.ta, .int .i64 c.tz, .string c.ka, .string c.kz] 77) := ⟨_, rfl⟩
 have HV1 := Lib.hid hv1
 obtain ⟨b6, hb6⟩ : ∃ b6, b6 = w.heap.size := ⟨_, rfl⟩
 have HB6e := Lib.hid hb6
 have HB1 : Hid (Below w.heap.size w v1) := Lib.hid (by rw [hv1]; exact (Below.refl _ _).alloc (Nat.le_refl _) _)
 have HR6 : Hid (v1.heap[b6]? = some (.cells #[.int .i64 (c.rows : Int), .int .i64 (c.pl : Int), .int .u64 (c.oa : Int), .int .u64 (c.ob : Int), .int .i64 c.ta, .int .i64 c.tz, .string c.ka, .string c.kz] 77 (0, 0))) := Lib.hid (by rw [hv1, hb6]; exact heap_alloc_new' w _)
 have HSG1 : Hid (v1.heap[bs]? = some (.cells #[.slice A n cap, .int .i64 (p : Int), .slice (some ⟨g, off, none⟩) n2 c2, .int .i64 (foot : Int)] 90 (0, 0))) := Lib.hid (row_keepS HSG.out HB1.out)
 clear hrg hv1 hb6 hi
 go_enter Tryz.func50, Tryz.ntmps50
 go_upto_region 2 with (first
  | (refine wpList_load_mid rfl 77 (.tmp 15) rfl g (off + i * 8) rfl [.int .i64 (c.rows : Int), .int .i64 (c.pl : Int), .int .u64 (c.oa : Int), .int .u64 (c.ob : Int), .int .i64 c.ta, .int .i64 c.tz, .string c.ka, .string c.kz] _ HRG.out uCk rfl (iCk c) ?_)
  | (refine wpList_store_row rfl 77 (.tmp 6) (.tmp 16) rfl w.heap.size #[.int .i64 (c.rows : Int), .int .i64 (c.pl : Int), .int .u64 (c.oa : Int), .int .u64 (c.ob : Int), .int .i64 c.ta, .int .i64 c.tz, .string c.ka, .string c.kz] rfl rfl _ _ (heap_alloc_new' _ _) (iCkS c) (sizeCkS c) (oneCkS c) ?_; rw [World.setRow_alloc_new]))
 rw [← HV1.out, ← HB6e.out]
 clear cb2 hii
 refine wp_region_held_drew (S := Below v1.heap.size v1) (by kernel_rfl) (Below.refl _ _).drew (fun hHeld => ?_)
 refine wpAnyH_take (i := 0) (v := .pointer (some ⟨bs, 0, none⟩)) rfl (by kernel_rfl) (by kernel_rfl) (by kernel_rfl) (fun _ _ _ h => h) (Or.inl ⟨by rfl, fun _ _ => rfl⟩) hHeld ?_
 try dsimp only
 try simp only [Act.put, qz0, qz1, qz2, qz3, qz4, qz5]
 refine wpAnyH_take (i := 1) (v := .pointer (some ⟨bs, 0, none⟩)) rfl (by kernel_rfl) (by kernel_rfl) (by kernel_rfl) (fun _ _ _ h => h) (Or.inl ⟨by rfl, fun w _ => by go_simp⟩) hHeld ?_
 try dsimp only
 try simp only [Act.put, qz0, qz1, qz2, qz3, qz4, qz5]
 refine wpAnyH_take (i := 2) (v := .pointer (some ⟨bs, 0, none⟩)) rfl (by kernel_rfl) (by kernel_rfl) (by kernel_rfl) (fun _ _ _ h => h) (Or.inl ⟨by rfl, fun w _ => by go_simp⟩) hHeld ?_
 try dsimp only
 try simp only [Act.put, qz0, qz1, qz2, qz3, qz4, qz5]
 refine wpAnyH_take (i := 3) (v := .slice A n cap) rfl (by kernel_rfl) (by kernel_rfl) (by kernel_rfl) (fun _ _ _ h => h) (yl_bysS rfl (.tmp 20) rfl bs 0 rfl _ (fun w hw => by rw [cell_of_row _ _ _ _ _ _ (row_keepS HSG1.out hw)]; rfl)) hHeld ?_
 try dsimp only
 try simp only [Act.put, qz0, qz1, qz2, qz3, qz4, qz5]
 refine wpAnyH_take (i := 4) (v := .pointer (some ⟨b6, 1, none⟩)) rfl (by kernel_rfl) (by kernel_rfl) (by kernel_rfl) (fun _ _ _ h => h) (Or.inl ⟨by rfl, fun w _ => by go_simp⟩) hHeld ?_
 try dsimp only
 try simp only [Act.put, qz0, qz1, qz2, qz3, qz4, qz5]
 refine wpAnyH_take (i := 5) (v := .int .i64 (c.pl : Int)) rfl (by kernel_rfl) (by kernel_rfl) (by kernel_rfl) (fun _ _ _ h => h) (ylS lv_intS rfl (.tmp 22) rfl b6 1 rfl _ (fun w hw => by rw [cell_of_row _ _ _ _ _ _ (row_keepS HR6.out hw)]; rfl)) hHeld ?_
 try dsimp only
 try simp only [Act.put, qz0, qz1, qz2, qz3, qz4, qz5]
 refine wpAnyH_take (i := 6) (v := .pointer (some ⟨bs, 0, none⟩)) rfl (by kernel_rfl) (by kernel_rfl) (by kernel_rfl) (fun _ _ _ h => h) (Or.inl ⟨by rfl, fun _ _ => rfl⟩) hHeld ?_
 try dsimp only
 try simp only [Act.put, qz0, qz1, qz2, qz3, qz4, qz5]
 refine wpAnyH_take (i := 7) (v := .pointer (some ⟨bs, 0, none⟩)) rfl (by kernel_rfl) (by kernel_rfl) (by kernel_rfl) (fun _ _ _ h => h) (Or.inl ⟨by rfl, fun w _ => by go_simp⟩) hHeld ?_
 try dsimp only
 try simp only [Act.put, qz0, qz1, qz2, qz3, qz4, qz5]
 refine wpAnyH_take (i := 8) (v := .pointer (some ⟨bs, 1, none⟩)) rfl (by kernel_rfl) (by kernel_rfl) (by kernel_rfl) (fun _ _ _ h => h) (Or.inl ⟨by rfl, fun w _ => by go_simp⟩) hHeld ?_
 try dsimp only
 try simp only [Act.put, qz0, qz1, qz2, qz3, qz4, qz5]
 refine wpAnyH_take (i := 9) (v := .int .i64 (p : Int)) rfl (by kernel_rfl) (by kernel_rfl) (by kernel_rfl) (fun _ _ _ h => h) (ylS lv_intS rfl (.tmp 26) rfl bs 1 rfl _ (fun w hw => by rw [cell_of_row _ _ _ _ _ _ (row_keepS HSG1.out hw)]; rfl)) hHeld ?_
 try dsimp only
 try simp only [Act.put, qz0, qz1, qz2, qz3, qz4, qz5]
 refine wpAnyH_ready (rs := [10]) (by kernel_rfl) (by simp) (AllReadyH.cons rfl (fun K hK => ?_) AllReadyH.nil)
 go_simp
 refine (HRD.out _ (below_to HB1.out (Below.refl _ _).drew)).mono ?_
 rintro e v3 ⟨L, m, rfl, h1, h2, h3, h4⟩
 have HM := Lib.hid h1; have HE3 := Lib.hid h2; have HB3 : Hid (Below v1.heap.size v1 v3) := Lib.hid ((Below.refl v1.heap.size v1).drew.trans h3); have HLO : Hid (w.heap.size ≤ L) := Lib.hid (Nat.le_trans HB1.out.size h4); clear h1 h2 h3 h4
 refine hK.out _ _ HB3.out (fun hHeld => ?_)
 clear hK K
 try dsimp only
 try simp only [Act.put, qz0, qz1, qz2, qz3, qz4, qz5]
 refine wpAnyH_take (i := 11) (v := .tuple #[.slice (some ⟨L, 0, none⟩) m m, .int .i64 (endB cs foot i : Nat), .int .i64 0]) rfl (by kernel_rfl) (by kernel_rfl) (by kernel_rfl) (fun _ _ _ h => h) (Or.inl ⟨by rfl, fun _ _ => rfl⟩) hHeld ?_
 try dsimp only
 try simp only [Act.put, qz0, qz1, qz2, qz3, qz4, qz5]
 refine wpAnyH_take (i := 12) (v := .slice (some ⟨L, 0, none⟩) m m) rfl (by kernel_rfl) (by kernel_rfl) (by kernel_rfl) (fun _ _ _ h => h) (Or.inl ⟨by rfl, fun w _ => by go_simp⟩) hHeld ?_
 try dsimp only
 try simp only [Act.put, qz0, qz1, qz2, qz3, qz4, qz5]
 refine wpAnyH_take (i := 13) (v := .int .i64 (endB cs foot i : Nat)) rfl (by kernel_rfl) (by kernel_rfl) (by kernel_rfl) (fun _ _ _ h => h) (Or.inl ⟨by rfl, fun w _ => by go_simp⟩) hHeld ?_
 try dsimp only
 try simp only [Act.put, qz0, qz1, qz2, qz3, qz4, qz5]
 refine wpAnyH_take (i := 14) (v := .int .i64 0) rfl (by kernel_rfl) (by kernel_rfl) (by kernel_rfl) (fun _ _ _ h => h) (Or.inl ⟨by rfl, fun w _ => by go_simp⟩) hHeld ?_
 try dsimp only
 try simp only [Act.put, qz0, qz1, qz2, qz3, qz4, qz5]
 refine wpAnyH_take (i := 15) (v := .slice (some ⟨L, 0, none⟩) m m) rfl (by kernel_rfl) (by kernel_rfl) (by kernel_rfl) (fun _ _ _ h => h) (Or.inl ⟨by rfl, fun _ _ => rfl⟩) hHeld ?_
 try dsimp only
 try simp only [Act.put, qz0, qz1, qz2, qz3, qz4, qz5]
 refine wpAnyH_take (i := 16) (v := .int .i64 (endB cs foot i : Nat)) rfl (by kernel_rfl) (by kernel_rfl) (by kernel_rfl) (fun _ _ _ h => h) (Or.inl ⟨by rfl, fun _ _ => rfl⟩) hHeld ?_
 try dsimp only
 try simp only [Act.put, qz0, qz1, qz2, qz3, qz4, qz5]
 refine wpAnyH_take (i := 17) (v := .int .i64 0) rfl (by kernel_rfl) (by kernel_rfl) (by kernel_rfl) (fun _ _ _ h => h) (Or.inl ⟨by rfl, fun _ _ => rfl⟩) hHeld ?_
 try dsimp only
 try simp only [Act.put, qz0, qz1, qz2, qz3, qz4, qz5]
 refine wpAnyH_done (by kernel_rfl) ?_ _
 clear hHeld
 go_upto_region 5 with fail
 have HR63 : Hid (v3.heap[b6]? = some (.cells #[.int .i64 (c.rows : Int), .int .i64 (c.pl : Int), .int .u64 (c.oa : Int), .int .u64 (c.ob : Int), .int .i64 c.ta, .int .i64 c.tz, .string c.ka, .string c.kz] 77 (0, 0))) := Lib.hid (row_keepS HR6.out HB3.out)
 have HSG3 : Hid (v3.heap[bs]? = some (.cells #[.slice A n cap, .int .i64 (p : Int), .slice (some ⟨g, off, none⟩) n2 c2, .int .i64 (foot : Int)] 90 (0, 0))) := Lib.hid (row_keepS HSG1.out HB3.out)
 have HCA3 : Hid (CkAt v3 (some ⟨g, off, none⟩) cs) := Lib.hid ((HC.out.keep HB1.out).keep HB3.out)
 have hm6 : m ≤ 64 := by have := HM.out; omega
 have hm0 : 0 < m := by have := HM.out; omega
 have HEO : Hid (∀ v, Below v3.heap.size v3 v → Calls Tryz.prog 84 #[.pointer (some ⟨bs, 0, none⟩), .int .i64 (i : Int)] v fun r w' => r = .returned (.int .i64 (endB cs foot i : Nat)) ∧ v = w') := Lib.hid fun v hb =>
  endOf_any bs p foot (.slice A n cap) g off n2 c2 cs hn2 hn29 i (by have := (List.getElem?_eq_some_iff.1 hc.out).1; have := hn2.out; omega) v (Lib.hid (row_keepS HSG3.out hb)) (Lib.hid (HCA3.out.keep hb))
 have HCK : Hid (∀ v, Below v3.heap.size v3 v → Calls Tryz.prog 36 #[.slice (some ⟨L, 0, none⟩) m m, .int .i64 (p : Int)] v fun e w' => e = .returned (.int .i64 0) ∧ Below v3.heap.size v3 w') := Lib.hid fun v hb => by
  have h := chk_any (some ⟨L, 0, none⟩) m m rows HM (by omega) (p : Int) v (Lib.hid (HE3.out.keep hb))
  rw [hck.out] at h
  exact h.mono fun e w' h => ⟨h.1, below_to hb h.2⟩
 have HCO : Hid (∀ v, Below v3.heap.size v3 v → Calls Tryz.prog 38 #[.slice (some ⟨L, 0, none⟩) m m, .int .i64 (c.pl : Int)] v fun e w' => e = .returned (.agg #[.int .i64 (c.rows : Int), .int .i64 (c.pl : Int), .int .u64 (c.oa : Int), .int .u64 (c.ob : Int), .int .i64 c.ta, .int .i64 c.tz, .string c.ka, .string c.kz]) ∧ Below v.heap.size v w') := Lib.hid fun v hb => by
  have h := chunkOf_any (some ⟨L, 0, none⟩) m m rows HM hm0 (by omega) c.pl v (Lib.hid (HE3.out.keep hb))
  rw [hcc.out] at h
  exact h
 generalize endB cs foot i = eb at *
 clear hm6 hm0
 refine wp_region_held_drew (S := Below v3.heap.size v3) (by kernel_rfl) (Below.refl _ _).drew (fun hHeld => ?_)
 refine wpAnyH_take (i := 0) (v := .int .i64 (eb : Int)) rfl (by kernel_rfl) (by kernel_rfl) (by kernel_rfl) (fun _ _ _ h => h) (Or.inl ⟨by rfl, fun _ _ => rfl⟩) hHeld ?_
 try dsimp only
 try simp only [Act.put, qz0, qz1, qz2, qz3, qz4, qz5]
 refine wpAnyH_take (i := 1) (v := .pointer (some ⟨bs, 0, none⟩)) rfl (by kernel_rfl) (by kernel_rfl) (by kernel_rfl) (fun _ _ _ h => h) (Or.inl ⟨by rfl, fun _ _ => rfl⟩) hHeld ?_
 try dsimp only
 try simp only [Act.put, qz0, qz1, qz2, qz3, qz4, qz5]
 refine wpAnyH_take (i := 2) (v := .int .i64 (i : Int)) rfl (by kernel_rfl) (by kernel_rfl) (by kernel_rfl) (fun _ _ _ h => h) (Or.inl ⟨by rfl, fun _ _ => rfl⟩) hHeld ?_
 try dsimp only
 try simp only [Act.put, qz0, qz1, qz2, qz3, qz4, qz5]
 refine wpAnyH_ready (rs := [3]) (by kernel_rfl) (by simp) (AllReadyH.cons rfl (fun K hK => ?_) AllReadyH.nil)
 go_simp
 refine (HEO.out _ (Below.refl _ _).drew).mono ?_
 rintro e v4 ⟨rfl, rfl⟩
 refine hK.out _ _ (Below.refl _ _).drew (fun hHeld => ?_)
 clear hK K
 try dsimp only
 try simp only [Act.put, qz0, qz1, qz2, qz3, qz4, qz5]
 refine wpAnyH_take (i := 4) (v := .bool false) rfl (by kernel_rfl) (by kernel_rfl) (by kernel_rfl) (fun _ _ _ h => h) (Or.inl ⟨by rfl, fun w _ => by first | (have h9 := run_neq_int (P := Tryz.prog) w; go_simp; done) | (go_simp; done)⟩) hHeld ?_
 try dsimp only
 try simp only [Act.put, qz0, qz1, qz2, qz3, qz4, qz5]
 refine wpAnyH_take (i := 5) (v := .bool false) rfl (by kernel_rfl) (by kernel_rfl) (by kernel_rfl) (fun _ _ _ h => h) (Or.inl ⟨by rfl, fun _ _ => rfl⟩) hHeld ?_
 try dsimp only
 try simp only [Act.put, qz0, qz1, qz2, qz3, qz4, qz5]
 refine wpAnyH_take (i := 6) (v := .slice (some ⟨L, 0, none⟩) m m) rfl (by kernel_rfl) (by kernel_rfl) (by kernel_rfl) (fun _ _ _ h => h) (Or.inl ⟨by rfl, fun _ _ => rfl⟩) hHeld ?_
 try dsimp only
 try simp only [Act.put, qz0, qz1, qz2, qz3, qz4, qz5]
 refine wpAnyH_take (i := 7) (v := .pointer (some ⟨bs, 0, none⟩)) rfl (by kernel_rfl) (by kernel_rfl) (by kernel_rfl) (fun _ _ _ h => h) (Or.inl ⟨by rfl, fun _ _ => rfl⟩) hHeld ?_
 try dsimp only
 try simp only [Act.put, qz0, qz1, qz2, qz3, qz4, qz5]
 refine wpAnyH_take (i := 8) (v := .pointer (some ⟨bs, 0, none⟩)) rfl (by kernel_rfl) (by kernel_rfl) (by kernel_rfl) (fun _ _ _ h => h) (Or.inl ⟨by rfl, fun w _ => by go_simp⟩) hHeld ?_
 try dsimp only
 try simp only [Act.put, qz0, qz1, qz2, qz3, qz4, qz5]
 refine wpAnyH_take (i := 9) (v := .pointer (some ⟨bs, 1, none⟩)) rfl (by kernel_rfl) (by kernel_rfl) (by kernel_rfl) (fun _ _ _ h => h) (Or.inl ⟨by rfl, fun w _ => by go_simp⟩) hHeld ?_
 try dsimp only
 try simp only [Act.put, qz0, qz1, qz2, qz3, qz4, qz5]
 refine wpAnyH_take (i := 10) (v := .int .i64 (p : Int)) rfl (by kernel_rfl) (by kernel_rfl) (by kernel_rfl) (fun _ _ _ h => h) (ylS lv_intS rfl (.tmp 44) rfl bs 1 rfl _ (fun w hw => by rw [cell_of_row _ _ _ _ _ _ (row_keepS HSG3.out hw)]; rfl)) hHeld ?_
 try dsimp only
 try simp only [Act.put, qz0, qz1, qz2, qz3, qz4, qz5]
 refine wpAnyH_ready (rs := [11]) (by kernel_rfl) (by simp) (AllReadyH.cons rfl (fun K hK => ?_) AllReadyH.nil)
 go_simp
 refine (HCK.out _ (Below.refl _ _).drew).mono ?_
 rintro e v5 ⟨rfl, hb5⟩
 have HB5 : Hid (Below v3.heap.size v3 v5) := Lib.hid hb5
 refine hK.out _ _ HB5.out (fun hHeld => ?_)
 clear hK K hb5
 try dsimp only
 try simp only [Act.put, qz0, qz1, qz2, qz3, qz4, qz5]
 refine wpAnyH_take (i := 12) (v := .bool false) rfl (by kernel_rfl) (by kernel_rfl) (by kernel_rfl) (fun _ _ _ h => h) (Or.inl ⟨by rfl, fun w _ => by go_simp⟩) hHeld ?_
 try dsimp only
 try simp only [Act.put, qz0, qz1, qz2, qz3, qz4, qz5]
 refine wpAnyH_take (i := 13) (v := .bool false) rfl (by kernel_rfl) (by kernel_rfl) (by kernel_rfl) (fun _ _ _ h => h) (Or.inl ⟨by rfl, fun w _ => by go_simp⟩) hHeld ?_
 try dsimp only
 try simp only [Act.put, qz0, qz1, qz2, qz3, qz4, qz5]
 refine wpAnyH_take (i := 14) (v := .bool false) rfl (by kernel_rfl) (by kernel_rfl) (by kernel_rfl) (fun _ _ _ h => h) (Or.inl ⟨by rfl, fun _ _ => rfl⟩) hHeld ?_
 try dsimp only
 try simp only [Act.put, qz0, qz1, qz2, qz3, qz4, qz5]
 refine wpAnyH_take (i := 15) (v := .slice (some ⟨L, 0, none⟩) m m) rfl (by kernel_rfl) (by kernel_rfl) (by kernel_rfl) (fun _ _ _ h => h) (Or.inl ⟨by rfl, fun _ _ => rfl⟩) hHeld ?_
 try dsimp only
 try simp only [Act.put, qz0, qz1, qz2, qz3, qz4, qz5]
 refine wpAnyH_take (i := 16) (v := .pointer (some ⟨b6, 1, none⟩)) rfl (by kernel_rfl) (by kernel_rfl) (by kernel_rfl) (fun _ _ _ h => h) (Or.inl ⟨by rfl, fun w _ => by go_simp⟩) hHeld ?_
 try dsimp only
 try simp only [Act.put, qz0, qz1, qz2, qz3, qz4, qz5]
 refine wpAnyH_take (i := 17) (v := .int .i64 (c.pl : Int)) rfl (by kernel_rfl) (by kernel_rfl) (by kernel_rfl) (fun _ _ _ h => h) (ylS lv_intS rfl (.tmp 51) rfl b6 1 rfl _ (fun w hw => by rw [cell_of_row _ _ _ _ _ _ (row_keepS HR63.out hw)]; rfl)) hHeld ?_
 try dsimp only
 try simp only [Act.put, qz0, qz1, qz2, qz3, qz4, qz5]
 refine wpAnyH_take (i := 19) (v := .agg #[.int .i64 (c.rows : Int), .int .i64 (c.pl : Int), .int .u64 (c.oa : Int), .int .u64 (c.ob : Int), .int .i64 c.ta, .int .i64 c.tz, .string c.ka, .string c.kz]) rfl (by kernel_rfl) (by kernel_rfl) (by kernel_rfl) (fun _ _ _ h => h) (yieldsIf_rowS rfl 77 (.tmp 6) rfl b6 rfl _ _ _ _ (fun w hw => row_keepS HR63.out hw) uCk rfl (by kernel_rfl)) hHeld ?_
 try dsimp only
 try simp only [Act.put, qz0, qz1, qz2, qz3, qz4, qz5]
 refine wpAnyH_ready (rs := [18]) (by kernel_rfl) (by simp) (AllReadyH.cons rfl (fun K hK => ?_) AllReadyH.nil)
 go_simp
 refine (HCO.out _ HB5.out).mono ?_
 rintro e v6 ⟨rfl, hb6⟩
 have HB6 : Hid (Below v3.heap.size v3 v6) := Lib.hid (below_to HB5.out hb6)
 refine hK.out _ _ HB6.out (fun hHeld => ?_)
 clear hK K hb6
 try dsimp only
 try simp only [Act.put, qz0, qz1, qz2, qz3, qz4, qz5]
 refine wpAnyH_take (i := 20) (v := .bool false) rfl (by kernel_rfl) (by kernel_rfl) (by kernel_rfl) (fun _ _ _ h => h) (Or.inl ⟨by rfl, fun w _ => by go_simp⟩) hHeld ?_
 try dsimp only
 try simp only [Act.put, qz0, qz1, qz2, qz3, qz4, qz5]
 refine wpAnyH_take (i := 21) (v := .bool false) rfl (by kernel_rfl) (by kernel_rfl) (by kernel_rfl) (fun _ _ _ h => h) (Or.inl ⟨by rfl, fun w _ => by go_simp⟩) hHeld ?_
 try dsimp only
 try simp only [Act.put, qz0, qz1, qz2, qz3, qz4, qz5]
 refine wpAnyH_done (by kernel_rfl) ?_ _
 clear hHeld
 go_wp2
 refine bodyPost_ret (results_tmp2U rfl _ _ _) rfl ?_
 exact ⟨L, m, rfl, HM.out, HE3.out.keep HB6.out, below_to HB1.out (below_to HB3.out HB6.out), HLO.out⟩
end Go.Proofs.YtifabkbdiiolfaaGreatDoor
