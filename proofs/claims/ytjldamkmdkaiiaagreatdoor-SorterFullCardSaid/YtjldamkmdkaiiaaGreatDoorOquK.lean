/-
  Layer sorter: SorterFull: the walk.
-/
import Derived.Test.YtjldamkmdkaiiaaGreatDoorOzK
import Derived.Test.YtjldamkmdkaiiaaGreatDoorO4K
set_option linter.unusedSimpArgs false
set_option linter.unusedVariables false
set_option maxRecDepth 8000
namespace Go.Proofs.YtjldamkmdkaiiaaGreatDoor
open Go.RowKit Go.WideShapes Col Go.Sort
theorem ch_fit {Z n : Nat} (hZ : 1 ≤ Z) (h : n + Z ≤ 320) : n ≤ 320 ∧ chN Z n * min Z n ≤ min 320 320 := by
 have h1 : chN Z n * min Z n ≤ chN Z n * Z := Nat.mul_le_mul_left _ (Nat.min_le_left _ _)
 have h2 : chN Z n * Z ≤ n + Z - 1 := Nat.div_mul_le_self _ _
 omega
theorem isort_val {l : List Ev} (h : ∀ x ∈ l, x.val < 18446744073709551616) : ∀ x ∈ isort ltM l, x.val < 18446744073709551616 := fun x hx => h x (isort_memM l x hx)
theorem sa_new {B w w' : World} {g : Nat} {room : Int} (h : S0 (Bs.of B) g room false 0 0 w) (hb : Below w.heap.size w w') : SA (Bs.of B) g room false 0 0 [] w' := SA.next (.inl ⟨rfl, h⟩) hb
end Go.Proofs.YtjldamkmdkaiiaaGreatDoor
namespace Go.Proofs.YtjldamkmdkaiiaaGreatDoor
open Go.RowKit Go.Sort
set_option maxHeartbeats 8000000 in
theorem stable_20 (blk cap N : Nat) (l : List Ev) (w0 w : World) (HR : Hid (RowE w0 blk N)) (hLN0 : l.length = N) (HS0 : Hid (SWE w0 blk l w)) (hN20 : N ≤ 20) :
  Calls Tryz.prog 83 #[.slice (some ⟨blk, 0, none⟩) N cap, .int .i64 N, .func (.func 71) #[] #[]] w fun e w' => e = .returned (.tuple #[]) ∧ SWE w0 blk (isort ltE l) w' := by
 have HLN := Lib.hid hLN0
 clear hLN0
 have hsz : N ≤ 1000000 := by omega
 go_enter Tryz.func83, Tryz.ntmps83
 go_wp2
 go_loopw [7, 8] (fun u v wr => RF w0 blk N l u v wr) (fun u _ _ => N - (intOf u).toNat)
 case atStart => exact ⟨0, l, rfl, rfl, first_start l, HS0.out⟩
 case round =>
  obtain ⟨a, lk, rfl, rfl, hf, hst⟩ := hrel
  have HF := Lib.hid hf
  have HS := Lib.hid hst
  have hle := hf.le
  clear hf hst HS0
  rw [HLN.out] at hle
  by_cases hlt : a + 20 ≤ N
  ·have hz : (a : Int) + 20 ≤ (N : Int) := by omega
   have hc : ((a : Int) + 20) = ((a + 20 : Nat) : Int) := by omega
   have HC := Lib.hid hc
   clear hc
   have HLK : Hid (lk.length = N) := Lib.hid (by obtain ⟨X, e1, e2, e3⟩ := HF.out.ex; rw [e1, List.length_append, List.length_drop, e2, HLN.out]; omega)
   go_wp2_with (go_at_call 104; rw [HC.out]; refine (insE_any blk cap a (a + 20) N lk w0 _ HR HLK.out HS (by omega) hlt hsz).mono ?_; rintro e w2 ⟨rfl, hs⟩; have HS2 := Lib.hid hs; clear hs)
   go_roundw
   case rel => exact ⟨a + 20, _, by go_num, by go_num, HF.out.step (by rw [HLN.out]; omega), HS2.out⟩
   case measure => simp [intOf]; omega
  ·have hz : ¬ ((a : Int) + 20 ≤ (N : Int)) := by omega
   have HLK : Hid (lk.length = N) := Lib.hid (by obtain ⟨X, e1, e2, e3⟩ := HF.out.ex; rw [e1, List.length_append, List.length_drop, e2, HLN.out]; omega)
   have HLAST := Lib.hid (HF.out.last HLN.out.symm (by omega))
   go_wp2_with (go_at_call 104; refine (insE_any blk cap a N N lk w0 _ HR HLK.out HS (by omega) (Nat.le_refl _) hsz).mono ?_; rintro e w2 ⟨rfl, hs⟩; rw [HLAST.out] at hs; have HS2 := Lib.hid hs; clear hs)
   clear hz
   go_loopw [6] (fun t wr => RO w0 blk N l t wr) (fun t _ => N - (intOf t).toNat)
   case atStart => exact ⟨20, rfl, by omega, by omega, HS2.out⟩
   case round =>
    obtain ⟨bs, rfl, h20, hbN, hst⟩ := hrel
    have HS3 := Lib.hid hst
    clear hst HS2 HS
    by_cases hbs : bs < N
    ·omega
    ·have hz : ¬ ((bs : Int) < (N : Int)) := by omega
     go_wp2
     go_end0
     refine ⟨rfl, ?_⟩
     rw [← bsrt_small bs (by omega) l (by rw [HLN.out]; omega)]; exact HS3.out
set_option maxHeartbeats 1000000 in
theorem sortStable_20 (blk cap N : Nat) (l : List Ev) (w : World) (hb : blk < w.heap.size) (hH : HoldsK Ev.cells 5 w blk 0 l.toArray) (hN : N = l.length) (hN20 : N ≤ 20) :
  Calls Tryz.prog 70 #[.slice (some ⟨blk, 0, none⟩) N cap, .func (.func 71) #[] #[]] w fun e w' => e = .returned (.tuple #[]) ∧ SortW w blk (isort ltE l).toArray w' := by
 have HI := Lib.hid (stable_20 blk cap N l w w (Lib.hid ⟨l, hN.symm, ⟨cells_len, cells_one, hH, hb⟩⟩) hN.symm (Lib.hid (SWK.start hH)) hN20)
 clear hH hN hb
 go_enter Tryz.func70, Tryz.ntmps70
 go_wp2_with (go_at_call 83; refine HI.out.mono ?_; rintro e w' ⟨rfl, hs⟩; have HS := Lib.hid hs; clear hs)
 go_end0
 exact ⟨rfl, HS.out⟩
set_option maxHeartbeats 1000000 in
theorem sort_20 (g off n c : Nat) (l : List Ev) (hn : Hid (n = l.length)) (hN20 : n ≤ 20) (w : World) (HA : Hid (EvAt w (some ⟨g, off, none⟩) l)) :
  Calls Tryz.prog 58 #[.slice (some ⟨g, off, none⟩) n c] w (RetE w n (isort ltE l)) := by
 have HC := Lib.hid (clone_some g off n c l hn.out (by omega) w HA)
 go_enter Tryz.func58, Tryz.ntmps58
 go_upto_region 2 with (go_at_call 69; refine HC.out.mono ?_; rintro e w1 ⟨v', rfl, ho, hv, hb⟩; obtain ⟨g1, cap, rfl, hg1, hg2, hl, hH⟩ := holds_own ho hv; have HO := Lib.hid ho; have HB := Lib.hid hb; have HL := Lib.hid hl; have HHH := Lib.hid hH; clear ho hv hb hl hH)
 have HS := Lib.hid (sortStable_20 g1 cap n l w1 hg2 HHH.out HL.out hN20)
 go_wp2_with (go_at_call 70; refine HS.out.mono ?_; rintro e w2 ⟨rfl, hs⟩; have HR := Lib.hid hs; clear hs)
 go_ret
 obtain ⟨q, os, rfl⟩ := HR.out
 exact ⟨g1, cap, rfl, own_put (q := q) HO.out (isort_len l) os, below_sortW HB.out (HB.out.size) hg1⟩
open Go.WideShapes Col in
theorem hsrt20 (gl' ol' n' c' : Nat) (l' : List Ev) (w' : World) (hn : n' = l'.length) (h6 : n' ≤ 20) (hE : EvAt w' (some ⟨gl', ol', none⟩) l') :
  Calls Tryz.prog 58 #[.slice (some ⟨gl', ol', none⟩) n' c'] w' fun e w2 => ∃ A cap, e = .returned (.slice A n' cap) ∧ OwnE w2 w'.heap.size A n' cap (isort ltM l') ∧ n' ≤ cap ∧ cap ≤ maxLen ∧ Below w'.heap.size w' w2 := by
 refine (sort_20 gl' ol' n' c' l' (Lib.hid hn) h6 w' (Lib.hid hE)).mono ?_
 rintro e w2 ⟨g1, cap, rfl, ho, hb⟩
 obtain ⟨A', cap', e, h1, h2, -⟩ := ro_slice ho
 injection e with e1 e2 e3
 subst e3
 exact ⟨some ⟨g1, 0, none⟩, cap, rfl, ho, h1, h2, hb⟩
end Go.Proofs.YtjldamkmdkaiiaaGreatDoor
namespace Go.Proofs.YtjldamkmdkaiiaaGreatDoor
open Go.RowKit Go.WideShapes Col Go.Sort
def SortMZ (pz : Bool) (base : World) (g : Nat) (room : Int) (nb n N : Nat) (out : List Ev) (P : Nat → Prop) (b : Nat) (o0 : Int) (w : World) (e : Ending) (w' : World) : Prop :=
 ∃ L c J, e = .returned (.tuple #[.slice L n c, .int .i64 (N : Nat), .int .i64 (J : Nat), .int .i64 0]) ∧ P J ∧ n ≤ c ∧ c ≤ maxLen ∧ OwnE w' w.heap.size L n c out ∧ KX b w w' ∧ ∃ zs o, SZ ⟨base, w'⟩ g room pz o zs w' ∧ Nms zs ∧ zs.length = nb ∧ (0 ≤ o ∧ o ≤ o0 + 1922000)
section
variable {F : Prop} {pz : Bool} {W : Bs} {g : Nat} {room : Int} {parts : Int}
theorem sortMZ_none (b Zh Z nb : Nat) (hZ : 1 ≤ Zh ∧ Zh ≤ 4096) (w : World) {ys : List Fil} {o : Int} (HR : RunsAt9 w b g parts none 0 0 0) (hs : SZ ⟨W.b, w⟩ g room pz o ys w) (hNm : Nms ys) (ho : 0 ≤ o ∧ o < 900000000) (hnb : ys.length = nb) :
  Calls Tryz.prog 30 #[.pointer (some ⟨b, 0, none⟩), .slice none 0 0, .agg #[.int .i64 (Zh : Int), .int .i64 (Z : Int)]] w (SortMZ pz W.b g room nb 0 0 [] (fun J => J = 0) b o w) := by
 refine (sort_none0 b Zh Z hZ w HR).mono ?_
 rintro e w' ⟨rfl, hb⟩
 exact ⟨none, 0, 0, rfl, rfl, Nat.le_refl _, Nat.zero_le _, World.ownsRow_nil _ _ _ 5, KX.of_kf (KF.of_below hb), ys, o, (hs.next hb).now, hNm, hnb, ho.1, by omega⟩
theorem sortMZ_some {TT : Nat} {w : World} {gl ol c n b nb bb Zh Z : Nat} {l : List Ev} {N : Nat} {ops0 : Int} {xs : List Fil} (hG : BegGZ F TT dgI W.b w g room b gl nb bb Zh parts l N ops0 w.heap.size) (hZ : 2 ≤ Z ∧ Z ≤ 16) (HRS : RS TT dgI parts nb bb xs [] 0) (hs : SZ W g room pz ops0 xs w) (hNm : Nms xs) (hsm : (sumN xs : Int) ≤ room) (HR : RunsAt9 w b g parts none 0 0 0) (HE : EvR w gl ol l) (hn : n = l.length) (hnc : n ≤ c) (hcm : c ≤ maxLen) :
  Calls Tryz.prog 30 #[.pointer (some ⟨b, 0, none⟩), .slice (some ⟨gl, ol, none⟩) n c, .agg #[.int .i64 (Zh : Int), .int .i64 (Z : Int)]] w (fun e w' => SortMZ pz W.b g room nb n N ((isort ltM l).map canE) (PassN Z N) b ops0 w e w' ∨ SortBad F W.b w g room pz b e w') := by
 refine (runSortZ_any hG hZ HRS hs hNm hsm HR HE n hn hnc hcm (Lib.hid hsrt20)).mono ?_
 rintro e w' (⟨J, i, l2, L, c2, hit, rfl, hJ, h1, h2, h3, h4, zs, o, h5, hnz, h6, h7, hord⟩ | h9)
 rotate_left 1
 ·exact .inr h9
 have hl := SO_bg hG.hn
 rw [← SO_it hZ.1 (bgP Zh l (chZ N)) N J, hit] at hl
 have hl2 : l2.map canE = (isort ltM l).map canE := by
  rw [← hl]; unfold SO evP canL
  simp only [List.map_cons, List.map_nil, List.flatten_cons, List.flatten_nil, List.append_nil]
  exact (isort_idem _ hord).symm
 have hN : (bgP Zh l (chZ N)).length = N := by rw [bgP_len, chZ_len]
 have hll : l2.length = n := by
  have := congrArg List.length hl2
  rw [List.length_map, List.length_map, isort_len] at this; omega
 rw [hll] at h1 h3 ⊢
 rw [hN]
 refine .inl ⟨L, c2, J, rfl, ⟨?_, fun j hj => ?_⟩, h1, h2, by rw [← hl2]; exact h3, h4, zs, o, h5, hnz, h6, h7.1, by have h8 := hG.Nle; omega⟩
 ·rw [← hN, ← itP_len Z (bgP Zh l (chZ N)) N J, hit]; rfl
 ·have := hJ j hj; rwa [itP_len, hN] at this
end
theorem Nms.clean {xs : List Fil} (h : Nms xs) : (xs.filter fun x => !runT x.name) = [] := by
 rw [List.filter_eq_nil_iff]
 intro x hx
 simp [(h.nm x hx).1]
theorem Nms.nil : Nms [] := ⟨(fun j k x y _ hx => by simp at hx), (fun x hx => nomatch hx), by simp⟩
section
variable {W : Bs} {g : Nat} {room ops : Int} {xs : List Fil}
theorem cleanZ_any (hN : Nms xs) (w : World) (hs : SA W g room false 0 ops xs w) (h : 0 ≤ ops ∧ ops < 900000000) :
  Calls Tryz.prog 23 #[.pointer (some ⟨g, 0, none⟩)] w fun e w' => e = .returned (.int .i64 0) ∧ KF w w' ∧ ∃ ops', (0 ≤ ops' ∧ ops' ≤ ops + 800) ∧ SA ⟨W.b, w'⟩ g room false 0 ops' [] w' := by
 refine (clean_any hN.rises (fun x hx => (hN.nm x hx).2) (by have := hN.len; omega) w hs h).mono ?_
 rintro e w' ⟨rfl, hk, o, h1, h2⟩
 rw [hN.clean] at h2
 exact ⟨rfl, hk, o, ⟨h1.1, by have := hN.len; omega⟩, h2⟩
set_option maxHeartbeats 4000000 in
theorem cleanBehind_off (w : World) : Calls Tryz.prog 31 #[.pointer (some ⟨g, 0, none⟩), .int .i64 9] w fun e w' => e = .returned (.int .i64 9) ∧ w' = w := by
 go_enter Tryz.func31, Tryz.ntmps31
 go_wp2
 go_ret
 exact ⟨rfl, rfl⟩
set_option maxHeartbeats 4000000 in
theorem cleanBehind_full (hN : Nms xs) (w : World) (hs : SA W g room false 0 ops xs w) (h : 0 ≤ ops ∧ ops < 900000000) :
  Calls Tryz.prog 31 #[.pointer (some ⟨g, 0, none⟩), .int .i64 10] w fun e w' => e = .returned (.int .i64 10) ∧ KF w w' ∧ ∃ ops', (0 ≤ ops' ∧ ops' ≤ ops + 800) ∧ SA ⟨W.b, w'⟩ g room false 0 ops' [] w' := by
 have HC := Lib.hid (cleanZ_any hN w hs h)
 clear hN hs
 go_enter Tryz.func31, Tryz.ntmps31
 go_wp2_with (go_at_call 23; (with_reducible refine HC.out.mono ?_); rintro e w2 ⟨rfl, h1, h2⟩; have HK2 := Lib.hid h1; have HS2 := Lib.hid h2; clear h1 h2)
 go_ret
 exact ⟨rfl, HK2.out, HS2.out⟩
def Left (base : World) (g : Nat) (room : Int) (pz : Bool) (F : Prop) (x : Int) (w' : World) : Prop :=
 (x = 9 ∧ pz = false ∧ ∃ (armed o : Int) (xs : List Fil), Nms xs ∧ (0 ≤ o ∧ o < 900000000) ∧ SA ⟨base, w'⟩ g room true armed o xs w') ∨ (x = 10 ∧ pz = true ∧ ¬ F ∧ ∃ o : Int, SA ⟨base, w'⟩ g room false 0 o [] w')
def SortRZ (F : Prop) (base : World) (g : Nat) (room : Int) (pz : Bool) (n N : Nat) (out : List Ev) (P : Nat → Prop) (w : World) (e : Ending) (w' : World) : Prop :=
 (∃ L c J, e = .returned (.tuple #[.slice L n c, .int .i64 (N : Nat), .int .i64 (J : Nat), .int .i64 0]) ∧ P J ∧ n ≤ c ∧ c ≤ maxLen ∧ OwnE w' w.heap.size L n c out ∧ KF w w' ∧ ∃ o, SZ ⟨base, w'⟩ g room pz o [] w') ∨
 (∃ x : Int, e = .returned (.tuple #[.slice none 0 0, .int .i64 0, .int .i64 0, .int .i64 x]) ∧ KF w w' ∧ Left base g room pz F x w')
theorem cleanBehind_bad {F : Prop} {pz : Bool} {x : Int} {base : World} (hpf : pz = true ∨ F) (w : World) (h : Bad base g room pz F x w) :
  Calls Tryz.prog 31 #[.pointer (some ⟨g, 0, none⟩), .int .i64 x] w fun e w' => e = .returned (.int .i64 x) ∧ KF w w' ∧ Left base g room pz F x w' := by
 obtain ⟨off, armed, o, ys, h1, h2, h3, h4, h5⟩ := h
 rcases h1 with ⟨rfl, rfl, hz⟩ | ⟨rfl, rfl, hF⟩
 ·refine (cleanBehind_off w).mono ?_
  rintro e w' ⟨rfl, rfl⟩
  exact ⟨rfl, KF.refl _, .inl ⟨rfl, hz, armed, o, ys, h2, h3, h5⟩⟩
 ·have hz : pz = true := hpf.resolve_right hF
  have h0 := h4.2.2 hz
  subst h0
  refine (cleanBehind_full h2 w h5 h3).mono ?_
  rintro e w' ⟨rfl, hk, o', -, hs⟩
  exact ⟨rfl, hk, .inr ⟨rfl, hz, hF, o', hs⟩⟩
set_option maxHeartbeats 8000000 in
theorem sortWZ_any {F : Prop} {pz : Bool} (hpf : pz = true ∨ F) (A : Option Addr) (n c : Nat) (l : List Ev) (parts : Int) (Zh Z N : Nat) (out : List Ev) (P : Nat → Prop) (hn : Hid (n = l.length)) (hn9 : n ≤ 1100) (hp : Hid (1 ≤ parts ∧ parts ≤ 8)) (hpl : planB Zh Z = true) (hall : Hid (∀ x ∈ l, formB x parts = true))
  (w : World) (HE : Hid (∀ w', KF w w' → EvAt w' A l))
  (HC0 : Hid (∀ w1, Below w.heap.size w w1 → Calls Tryz.prog 23 #[.pointer (some ⟨g, 0, none⟩)] w1 fun e w' => e = .returned (.int .i64 0) ∧ KF w1 w' ∧ ∃ o4, (0 ≤ o4 ∧ o4 ≤ 100000) ∧ SZ ⟨W.b, w'⟩ g room pz o4 [] w'))
  (HST : Hid (∀ (w4 : World) (b : Nat) (o4 : Int), w.heap.size ≤ b → b < w4.heap.size → KF w w4 → RunsAt9 w4 b g parts none 0 0 0 → SZ ⟨W.b, w4⟩ g room pz o4 [] w4 → (0 ≤ o4 ∧ o4 ≤ 100000) → Calls Tryz.prog 30 #[.pointer (some ⟨b, 0, none⟩), .slice A n c, .agg #[.int .i64 (Zh : Int), .int .i64 (Z : Int)]] w4 (fun e w' => SortMZ pz W.b g room 0 n N out P b o4 w4 e w' ∨ SortBad F W.b w4 g room pz b e w'))) :
  Calls Tryz.prog 13 #[.pointer (some ⟨g, 0, none⟩), .slice A n c, .int .i64 parts, .agg #[.int .i64 (Zh : Int), .int .i64 (Z : Int)]] w (SortRZ F W.b g room pz n N out P w) := by
 have hb1 := (Below.refl w.heap.size w).alloc (Nat.le_refl _) (.cells #[.int .i64 (Zh : Int), .int .i64 (Z : Int)] 26)
 have HB1 := Lib.hid hb1
 have HCL := Lib.hid (HC0.out _ hb1)
 obtain ⟨pb, hpb⟩ : ∃ pb, pb = w.heap.size := ⟨_, rfl⟩
 have HPB := Lib.hid hpb
 have HRP : Hid ((w.alloc (.cells #[.int .i64 (Zh : Int), .int .i64 (Z : Int)] 26)).heap[pb]? = some (.cells #[.int .i64 (Zh : Int), .int .i64 (Z : Int)] 26 (0, 0))) := Lib.hid (by rw [hpb]; exact heap_alloc_new' _ _)
 have HPL := Lib.hid hpl
 have HPF := Lib.hid hpf
 clear hb1 hpb hpl hpf
 go_enter Tryz.func13, Tryz.ntmps13
 go_upto_region 4 with (go_at_call 23; (with_reducible refine HCL.out.mono ?_); rintro e w2 ⟨rfl, h1, o4, h2, h3⟩; have HK2 := Lib.hid h1; have HO4 := Lib.hid h2; have HS2 := Lib.hid h3; clear h1 h2 h3)
 have hrp2 : w2.heap[pb]? = some (.cells #[.int .i64 (Zh : Int), .int .i64 (Z : Int)] 26 (0, 0)) := HK2.out.row HRP.out (not_st (by decide) (by decide) (by decide))
 have HRP2 := Lib.hid hrp2
 have cp0 : w2.cell? ⟨pb, 0, none⟩ = some (.int .i64 (Zh : Int)) := by rw [cell_of_row _ _ _ _ _ _ hrp2]; rfl
 have cp1 : w2.cell? ⟨pb, 1, none⟩ = some (.int .i64 (Z : Int)) := by rw [cell_of_row _ _ _ _ _ _ hrp2]; rfl
 have HK : Hid (KF w w2) := Lib.hid ((KF.of_below HB1.out).trans HK2.out)
 have HRF := Lib.hid (refuses_fine A n c l hn hn9 parts (Zh : Int) (Z : Int) hp HPL.out hall w2 (Lib.hid (HE.out w2 HK.out)))
 rw [← HPB.out]
 clear hrp2
 go_upto_region 7 with (go_at_call 29; (with_reducible refine HRF.out.mono ?_); rintro e w3 ⟨rfl, h1⟩; have HB3 := Lib.hid h1; clear h1)
 have hrp3 := row_kept HRP2.out HB3.out
 have HRP3 := Lib.hid hrp3
 obtain ⟨b, hb⟩ : ∃ b, b = w3.heap.size := ⟨_, rfl⟩
 have HB := Lib.hid hb
 have hb4 := (Below.refl w3.heap.size w3).alloc (Nat.le_refl _) (.cells #[.pointer (some ⟨g, 0, none⟩), .int .i64 parts, .slice none 0 0, .int .i64 0] 70)
 have hrp4 := row_kept hrp3 hb4
 have dp0 : (w3.alloc (.cells #[.pointer (some ⟨g, 0, none⟩), .int .i64 parts, .slice none 0 0, .int .i64 0] 70)).cell? ⟨pb, 0, none⟩ = some (.int .i64 (Zh : Int)) := by rw [cell_of_row _ _ _ _ _ _ hrp4]; rfl
 have dp1 : (w3.alloc (.cells #[.pointer (some ⟨g, 0, none⟩), .int .i64 parts, .slice none 0 0, .int .i64 0] 70)).cell? ⟨pb, 1, none⟩ = some (.int .i64 (Z : Int)) := by rw [cell_of_row _ _ _ _ _ _ hrp4]; rfl
 have HK4 : Hid (KF w (w3.alloc (.cells #[.pointer (some ⟨g, 0, none⟩), .int .i64 parts, .slice none 0 0, .int .i64 0] 70))) := Lib.hid ((HK.out.below HB3.out).below hb4)
 have hsz : w.heap.size ≤ w3.heap.size := Nat.le_trans HK.out.size HB3.out.size
 have HSZ := Lib.hid hsz
 have HSM := Lib.hid (HST.out _ w3.heap.size o4 hsz (by simp) HK4.out (heap_alloc_new' _ _) ((HS2.out.next HB3.out).next hb4).now HO4.out)
 clear hb hb4 hrp3 hrp4 hsz
 go_wp2_with (first
  | (go_at_call 30; (with_reducible refine HSM.out.mono ?_); intro e w5 h5; unfold SortMZ SortBad at h5; (rcases h5 with ⟨L, c5, J, rfl, h1, h2, h3, h4, h6, zs5, o5, h7⟩ | ⟨L, m, c5, u, v, x, rfl, h6, h7⟩); (have HP := Lib.hid h1; have HC5 := Lib.hid (And.intro h2 h3); have HO5 := Lib.hid h4; have HX5 := Lib.hid h6; have HZ5 := Lib.hid h7; clear h1 h2 h3 h4 h6 h7); rotate_left 1; (have hx0 : x ≠ 0 := by rcases h7.e_pos with rfl | rfl <;> decide); (have HX5 := Lib.hid h6; have HCB := Lib.hid (cleanBehind_bad HPF.out w5 h7); clear h6 h7); rotate_right 1)
  | (go_at_call 31; (with_reducible refine HCB.out.mono ?_); rintro e w6 ⟨rfl, h1, h2⟩; have HK6 := Lib.hid h1; have HL6 := Lib.hid h2; clear h1 h2))
 ·refine bodyPost_ret (results_tmp4O rfl _ _ _) rfl (.inl ?_)
  have h9 := HSZ.out
  have hz := HZ5.out.2.2.1
  obtain rfl := List.eq_nil_of_length_eq_zero hz
  exact ⟨L, c5, J, rfl, HP.out, HC5.out.1, HC5.out.2, HO5.out.less (by simp; omega), KX.old HK4.out HX5.out h9, o5, HZ5.out.1⟩
 ·exact bodyPost_ret (results_tmp4O rfl _ _ _) rfl (.inr ⟨x, rfl, (KX.old HK4.out HX5.out HSZ.out).trans HK6.out, HL6.out⟩)
end
section
variable {W : Bs} {g : Nat} {room ops : Int} {xs : List Fil} {pz : Bool}
theorem cleanZ_new (w : World) (hs : SZ W g room pz ops [] w) (h : 0 ≤ ops ∧ ops ≤ 100000) :
  ∀ w1, Below w.heap.size w w1 → Calls Tryz.prog 23 #[.pointer (some ⟨g, 0, none⟩)] w1 fun e w' => e = .returned (.int .i64 0) ∧ KF w1 w' ∧ ∃ o4, (0 ≤ o4 ∧ o4 ≤ 100000) ∧ SZ ⟨W.b, w'⟩ g room pz o4 [] w' := fun w1 hb => by
 obtain ⟨a, ha, hs⟩ := hs
 refine (clean_none w1 (hs.next hb)).mono ?_
 rintro e w' ⟨rfl, hb'⟩
 exact ⟨rfl, KF.of_below hb', ops, h, a, ha, ((hs.next hb).next hb').now⟩
theorem sortSZ_any {F : Prop} (hpf : pz = true ∨ F) (TT : Nat) (A : Option Addr) (n c : Nat) (l : List Ev) (parts : Int) (Zh Z : Nat) (hp : 1 ≤ parts ∧ parts ≤ 8) (hZh : 1 ≤ Zh ∧ Zh ≤ 20) (hZ : 2 ≤ Z ∧ Z ≤ 16) (hfin : ∀ x ∈ l, FineE x) (hall : ∀ x ∈ l, formB x parts = true) (hbig : l.length ≤ 320 ∧ chN Zh l.length * min Zh l.length ≤ min TT 320)
  (w : World) (HE : EvS w A n c l) (HT : TabsAt W.b) (hg : W.b.heap.size ≤ g) (hbs : W.b.heap.size ≤ w.heap.size) (hroom : room ≤ 16777216) (hr0 : 0 ≤ room) (hF : F → ((0 + 700 * TT : Nat) : Int) ≤ room)
  (HC0 : ∀ w1, Below w.heap.size w w1 → Calls Tryz.prog 23 #[.pointer (some ⟨g, 0, none⟩)] w1 fun e w' => e = .returned (.int .i64 0) ∧ KF w1 w' ∧ ∃ o4, (0 ≤ o4 ∧ o4 ≤ 100000) ∧ SZ ⟨W.b, w'⟩ g room pz o4 [] w') :
  Calls Tryz.prog 13 #[.pointer (some ⟨g, 0, none⟩), .slice A n c, .int .i64 parts, .agg #[.int .i64 (Zh : Int), .int .i64 (Z : Int)]] w (SortRZ F W.b g room pz n (chN Zh n) ((isort ltM l).map canE) (PassZ Z n (chN Zh n)) w) := by
 have hn := HE.at.2.1
 refine sortWZ_any hpf A n c l parts Zh Z (chN Zh n) _ _ (Lib.hid hn) (by omega) (Lib.hid hp) (by unfold planB; simp; omega) (Lib.hid hall) w (Lib.hid fun w' hk => (HE.kf hk).at.1) (Lib.hid HC0) (Lib.hid fun w4 b o4 hb hb4 hk hR hs4 ho => ?_)
 rcases HE with ⟨rfl, rfl, rfl, rfl⟩ | ⟨gl, ol, rfl, hE, -, h0, hnc, hcm⟩
 ·have hc0 : chN Zh 0 = 0 := by unfold chN; exact Nat.div_eq_of_lt (by omega)
  rw [hc0]
  refine (sortMZ_none b Zh Z 0 ⟨hZh.1, by omega⟩ w4 hR hs4 Nms.nil ⟨ho.1, by omega⟩ rfl).mono ?_
  rintro e w5 ⟨L, c5, J, rfl, hJ, h1, h2, h3, h4⟩
  exact .inl ⟨L, c5, J, rfl, .inl ⟨rfl, hJ⟩, h1, h2, h3, h4⟩
 ·have hgl : gl < w.heap.size := by obtain ⟨cur, t, fr, h1, -⟩ := hE; exact (Array.getElem?_eq_some_iff.1 h1).1
  have hG : BegGZ F TT dgI W.b w4 g room b gl 0 0 Zh parts l (chN Zh n) o4 w4.heap.size :=
   ⟨namerI, ⟨by have := hk.size; omega, Nat.le_refl _, by omega, hb4, by omega, by have := hk.size; omega⟩, hZh, fun k => by rw [hn]; exact chN_iff hZh.1 k, by omega, by rw [hn]; exact hbig, hfin, hall, ⟨ho.1, by omega⟩, HT, hg, by omega, hroom, hF⟩
  have hRS : RS TT dgI parts 0 0 [] [] 0 := RS.start Nms.nil.rises
  refine (sortMZ_some (W := ⟨W.b, w4⟩) hG hZ hRS hs4 Nms.nil (by simpa [sumN] using hr0) hR (hE.kf hk) hn hnc hcm).mono ?_
  rintro e w5 (⟨L, c5, J, rfl, hJ, h1, h2, h3, h4⟩ | h9)
  ·exact .inl ⟨L, c5, J, rfl, .inr ⟨h0, hJ⟩, h1, h2, h3, h4⟩
  ·exact .inr h9
end
set_option maxHeartbeats 8000000 in
theorem awakeZ_any (w : World) (HT : TabsAt w) : Calls Tryz.prog 9 #[] w fun e w' => e = .returned (.bool true) ∧ Below w.heap.size w w' := by
 have HTT := Lib.hid HT
 clear HT
 go_enter Tryz.func9, Tryz.ntmps9
 go_wp2_with (go_at_call 11; (with_reducible refine (new_anyF 65536 (by decide) w).mono ?_); rintro e w1 ⟨g, rfl, h1, h2⟩; have HG := Lib.hid h1; have HS0 := Lib.hid h2; clear h1 h2)
 go_loopw [3, 4] (fun u v wr => ∃ (k : Nat) (A : Option Addr) (cap : Nat), k ≤ 10 ∧ v = .int .i64 (k : Int) ∧ u = .slice A k cap ∧ Hid (OwnE wr w1.heap.size A k cap (awL k)) ∧ Hid (Below w1.heap.size w1 wr)) (fun _ v _ => 10 - (intOf v).toNat)
 case atStart => exact ⟨0, none, 0, by omega, rfl, rfl, Lib.hid (World.ownsRow_nil _ _ _ 5), Lib.hid (Below.refl _ _)⟩
 case round =>
  obtain ⟨k, A, cap, hk, rfl, rfl, HO, HB⟩ := hrel
  by_cases hlt : k < 10
  ·have hlti : (k : Int) < 10 := by omega
   have hneg : IntKind.i64.wrap (-(k : Int)) = -(k : Int) := by rw [IntKind.wrap_i64]; omega
   have hal := (Below.refl wr.heap.size wr).alloc (Nat.le_refl _) (.cells #[.int .u64 0, .int .i64 0, .int .i64 (-(k : Int)), .string { data := #[] }, .float .f64 0] 51)
   have HAL := Lib.hid hal
   have HO1 : Hid (OwnE (wr.alloc (.cells #[.int .u64 0, .int .i64 0, .int .i64 (-(k : Int)), .string { data := #[] }, .float .f64 0] 51)) w1.heap.size A k cap (awL k)) := Lib.hid (HO.out.keptE (S := fun _ => False) (Kept.of_below hal) (fun k hk => hk.elim))
   have HE1 : Hid (EvAt (wr.alloc (.cells #[.int .u64 0, .int .i64 0, .int .i64 (-(k : Int)), .string { data := #[] }, .float .f64 0] 51)) (some ⟨wr.heap.size, 0, none⟩) [awE k]) := Lib.hid fun j v hv => ⟨wr.heap.size, 0, rfl, by simp, by
    rw [cell_of_row _ _ _ _ _ _ (heap_alloc_new' wr _), Nat.zero_add]
    simpa [evs, Ev.cells, awE] using hv⟩
   clear hal
   go_wp2_with (refine wpList_append_ev rfl (.tmp 17) (.tmp 21) rfl w1.heap.size A k cap (awL k) rfl HO1.out (some ⟨wr.heap.size, 0, none⟩) 1 1 [awE k] rfl rfl HE1.out (fun h => by cases h) (k + 1) rfl (by omega) (Nat.le_trans HB.out.size HAL.out.size) ?_; intro A2 c2 w2 h1 h2 h3 h4 h5; have HO2 := Lib.hid h1; have HB2 := Lib.hid h5; clear h1 h2 h3 h4 h5)
   go_roundw
   case rel => exact ⟨k + 1, A2, c2, by omega, by go_num, rfl, Lib.hid (by rw [awL_succ]; exact HO2.out), Lib.hid ((HB.out.trans (HAL.out.mono HB.out.size)).trans HB2.out)⟩
   case measure => simp [intOf]; omega
  ·have hk10 : k = 10 := by omega
   subst hk10
   have hsa : SA (Bs.of w) g 65536 false 0 0 [] wr := SA.next (.inl ⟨rfl, HS0.out⟩) HB.out
   have hbw : w.heap.size ≤ wr.heap.size := hsa.below.gb.size
   have hso := sortSZ_any (W := Bs.of w) (g := g) (room := 65536) (pz := true) (F := True) (.inl rfl) 20 A 10 cap (awL 10) 1 2 2 (by decide) (by decide) (by decide) (fun x hx => (aw_fine x hx).1) (fun x hx => (aw_fine x hx).2) (by decide) wr (EvS.of_own HO.out (by decide)) HTT.out HG.out hbw (by decide) (by decide) (fun _ => by decide) (cleanZ_new wr ⟨0, ⟨by decide, by decide, fun _ => rfl⟩, hsa⟩ (by decide))
   have HSO : Hid (Calls Tryz.prog 13 #[.pointer (some ⟨g, 0, none⟩), .slice A 10 cap, .int .i64 1, .agg #[.int .i64 2, .int .i64 2]] wr fun e w' => ∃ q c, e = .returned (.tuple #[.slice (some ⟨q, 0, none⟩) 10 c, .int .i64 5, .int .i64 3, .int .i64 0]) ∧ w'.cell? ⟨q, 2, none⟩ = some (.int .i64 (-9)) ∧ Below w.heap.size w w') := Lib.hid (hso.mono fun e w' h => by
    rcases h with ⟨L, c, J, rfl, hP, h1, h2, h3, h4, o, h5⟩ | ⟨x, rfl, -, h8⟩
    rotate_left 1
    ·rcases h8 with ⟨-, h8, -⟩ | ⟨-, -, h8, -⟩
     ·cases h8
     ·exact (h8 trivial).elim
    obtain rfl := aw_pass hP
    obtain ⟨q, rfl⟩ := ownE_some h3 (by decide) h1
    refine ⟨q, c, rfl, ?_, gb_new h5.below HG.out⟩
    obtain ⟨g', off', e', -, hr⟩ := evr h3.at' 0 _ aw_out
    injection e' with e'; injection e' with b1 b2 _
    subst b1; subst b2
    exact hr 2 _ rfl)
   clear hso hsa hlt hk
   go_wp2_with (go_at_call 13; (with_reducible refine HSO.out.mono ?_); rintro e w4 ⟨q, c4, rfl, h1, h2⟩; have HB4 := Lib.hid h2; clear h2)
   go_ret
   exact ⟨rfl, HB4.out⟩
set_option maxHeartbeats 8000000 in
theorem sorterFull_any (a : Option Addr) (l : List Ev) (n c : Nat) (hn : Hid (n = l.length)) (hnc : n ≤ c) (hcm : c ≤ maxLen) (hv : ∀ x ∈ l, x.val < 18446744073709551616) (r : Nat) (hr : r < 65536) (h : Nat) (hh : h < 256) (W : World) (HA : Hid (EvAt W a l)) (HG : Hid (TabsAt W)) :
  Calls Tryz.prog 4 #[.slice a n c, .int .u16 (r : Int), .int .u8 (h : Int)] W fun e w' => e = .returned (.bool true) ∧ Below W.heap.size W w' := by
 have HAW := Lib.hid (awakeZ_any W HG.out)
 have HV := Lib.hid hv
 have hc9 : n ≤ 9223372036854775807 := by unfold maxLen at hcm; omega
 clear hv hcm
 go_enter Tryz.func4, Tryz.ntmps4
 go_upto_region 3 with (go_at_call 9; (with_reducible refine HAW.out.mono ?_); rintro e w1 ⟨rfl, h1⟩; have HB1 := Lib.hid h1; clear h1)
 have HFN := Lib.hid (fine_anyO a n c l hn w1 (Lib.hid (HA.out.keep HB1.out)) hc9)
 go_upto_region 4 with (go_at_call 10; (with_reducible refine HFN.out.mono ?_); rintro e w2 ⟨A, m, cap, rfl, h1, h2⟩; have HE2 := Lib.hid h1; have HB2 := Lib.hid h2; clear h1 h2)
 obtain ⟨room, hroom⟩ : ∃ room : Int, room = 1 + (r : Int) := ⟨_, rfl⟩
 have HRM := Lib.hid (And.intro hroom (show 1 ≤ room ∧ room ≤ 65536 by omega))
 have HNW := Lib.hid (new_anyF room (by omega) w2)
 rw [hroom] at HNW
 go_upto_region 5 with (go_at_call 11; (with_reducible refine HNW.out.mono ?_); rintro e w3 ⟨g, rfl, h1, h2⟩; have HGG := Lib.hid h1; have HS3 := Lib.hid h2; clear h1 h2)
 rw [← hroom] at HS3
 clear hroom
 have HL : Hid (∀ x ∈ fnL l 200, FineE x ∧ formB x 8 = true ∧ x.val < 18446744073709551616) := Lib.hid fun x hx => by
  obtain ⟨h1, h2⟩ := fnL_form x hx
  exact ⟨fine_of_form h2 (HV.out x h1), h2, HV.out x h1⟩
 have HM : Hid (m = (fnL l 200).length ∧ m ≤ 200) := Lib.hid (by have h1 := HE2.out.at.2.1; have h2 := fnL_len l 200; omega)
 have hB02 : Below W.heap.size W w2 := below_to HB1.out HB2.out
 have HTB : Hid (TabsAt w2) := Lib.hid ⟨HG.out.1.keep hB02, HG.out.2.keep hB02⟩
 have HB02 := Lib.hid hB02
 have hs3 := sa_new HS3.out (Below.refl _ _)
 have hk3 : KF w2 w3 := hs3.kf
 have HSA := Lib.hid (sortSZ_any (W := Bs.of w2) (g := g) (room := room) (pz := true) (F := ((0 + 700 * 320 : Nat) : Int) ≤ room) (.inl rfl) 320 A m cap (fnL l 200) 8 (1 + h % 20) 3 (by decide) (by omega) (by decide) (fun x hx => (HL.out x hx).1) (fun x hx => (HL.out x hx).2.1) (ch_fit (by omega) (by have := HM.out; omega)) w3 (HE2.out.kf hk3) HTB.out HGG.out hs3.below.gb.size (by have := HRM.out; omega) (by have := HRM.out; omega) id (cleanZ_new w3 ⟨0, ⟨by decide, by decide, fun _ => rfl⟩, hs3⟩ (by decide)))
 rw [show ((1 + h % 20 : Nat) : Int) = 1 + (h : Int) % 20 by omega, show ((3 : Nat) : Int) = 3 from rfl] at HSA
 have HK3 := Lib.hid hk3
 clear hB02 hs3 hk3
 go_upto_region 6 with (go_at_call 13; (with_reducible refine HSA.out.mono ?_); intro e w4 h9; unfold SortRZ at h9; (rcases h9 with ⟨L4, c4, J4, rfl, -, h1, h3, h4, h5, o4, h6⟩ | ⟨x, rfl, h5, h6⟩); (have HO4 := Lib.hid h4; have HK4 := Lib.hid h5; have HS4 := Lib.hid h6; clear h1 h3 h4 h5 h6); rotate_left 1; (have HK4 := Lib.hid h5; have HL4 := Lib.hid h6; clear h5 h6); rotate_right 1)
 ·have HRS := Lib.hid (rsort_any A m cap (fnL l 200) (Lib.hid HM.out.1) (by have := HM.out; omega) w4 (Lib.hid ((HE2.out.kf HK3.out).kf HK4.out).at.1))
  go_wp2_with (first
   | (go_at_call 15; (with_reducible refine HRS.out.mono ?_); rintro e w8 ⟨L8, c8, rfl, h1, h2⟩; have HO8 := Lib.hid h1; have HB8 := Lib.hid h2; have HSM := Lib.hid (sameAllC_any L4 L8 m c4 c8 (isort ltM (fnL l 200)) (by rw [isort_len]; exact HM.out.1) (by have := HM.out; omega) (isort_val fun x hx => (HL.out x hx).2.2) w8 (HO4.out.at'.keep h2) h1.at'); clear h1 h2)
   | (go_at_call 14; (with_reducible refine HSM.out.mono ?_); rintro e w9 ⟨rfl, h1⟩; have HB9 := Lib.hid (below_to HB8.out h1); clear h1))
  go_ret
  exact ⟨rfl, below_to HB02.out ((gb_new (HS4.out.next HB9.out).below HGG.out))⟩
 ·rcases HL4.out with ⟨-, h8, -⟩ | ⟨rfl, -, -, o, hs⟩
  ·cases h8
  ·have HS4 := Lib.hid hs
   have HU := Lib.hid (used_A (by decide) (by decide) w4 HS4)
   clear hs
   go_wp2_with (first
    | (go_at_call 18; (with_reducible refine HU.out.mono ?_); rintro e w5 ⟨rfl, h1⟩; have HB5 := Lib.hid h1; have HLI := Lib.hid (list_A (by decide) w5 (Lib.hid (HS4.out.next h1))); clear h1)
    | (go_at_call 17; (with_reducible refine HLI.out.mono ?_); rintro e w6 ⟨b6, rfl, -, -, h1⟩; have HB6 := Lib.hid h1; clear h1))
   go_ret
   exact ⟨rfl, below_to HB02.out ((gb_new ((HS4.out.next HB5.out).next HB6.out).below HGG.out))⟩
end Go.Proofs.YtjldamkmdkaiiaaGreatDoor
