/-
  Layer sorter: begin: the first runs are laid, where the power may go off, or there may be no room.
-/
import Derived.Test.YtjldamkmdkaiiaaGreatDoorOxK
import Derived.Test.YtjldamkmdkaiiaaGreatDoorOsqK
import Derived.Test.YtjldamkmdkaiiaaGreatDoorTkK
set_option linter.unusedSimpArgs false
set_option linter.unusedVariables false
set_option maxRecDepth 8000
namespace Go.Proofs.YtjldamkmdkaiiaaGreatDoor
open Go.RowKit Go.WideShapes Col Go.Sort Go.Shelf
attribute [local go_sem] Oper.semAt_some
structure BegGZ (F : Prop) (TT : Nat) (dgs : Nat → ByteArray) (base w : World) (g : Nat) (room : Int) (b gl nb bb Z : Nat) (parts : Int) (l : List Ev) (N : Nat) (ops0 : Int) (s : Nat) : Prop where
 nmr : Namer dgs
 f : BegF base w b gl s
 hz : 1 ≤ Z ∧ Z ≤ 20
 hn : ∀ k, Z * k < l.length ↔ k < N
 hpos : 0 < l.length
 hbig : l.length ≤ 320 ∧ N * min Z l.length ≤ min TT 320
 fine : ∀ x ∈ l, FineE x
 form : ∀ x ∈ l, formB x parts = true
 hops : 0 ≤ ops0 ∧ ops0 < 500000000
 hg : TabsAt base
 hgg : base.heap.size ≤ g
 hnb : nb < 100
 hroom : room ≤ 16777216
 hfit : F → ((bb + 700 * TT : Nat) : Int) ≤ room
theorem BegGZ.Nle {F : Prop} {TT : Nat} {dgs : Nat → ByteArray} {base w : World} {g : Nat} {room : Int} {b gl nb bb Z : Nat} {parts : Int} {l : List Ev} {N : Nat} {ops0 : Int} {s : Nat} (h : BegGZ F TT dgs base w g room b gl nb bb Z parts l N ops0 s) : N ≤ l.length ∧ N ≤ 320 := by
 have hb := h.hbig.1
 by_cases h0 : N = 0
 ·omega
 ·have h1 := (h.hn (N - 1)).2 (by omega)
  have h2 : 1 * (N - 1) ≤ Z * (N - 1) := Nat.mul_le_mul_right _ h.hz.1
  omega
theorem BegGZ.mz {F : Prop} {TT : Nat} {dgs : Nat → ByteArray} {base w : World} {g : Nat} {room : Int} {b gl nb bb Z : Nat} {parts : Int} {l : List Ev} {N : Nat} {ops0 : Int} {s : Nat} (h : BegGZ F TT dgs base w g room b gl nb bb Z parts l N ops0 s) : min Z l.length ≤ min TT 320 := by
 have h1 := (h.hn 0).1 (by have := h.hpos; omega)
 exact Nat.le_trans (Nat.le_mul_of_pos_left _ h1) h.hbig.2
theorem beg_endZ {F : Prop} {pz : Bool} {TT : Nat} {dgs : Nat → ByteArray} {base w W6 V' : World} {g : Nat} {room : Int} {b gl ol n c nb bb Z : Nat} {parts : Int} {l : List Ev} {N : Nat} {ops0 ops6 : Int} {s : Nat} {xs6 ys : List Fil} {A A7 : Option Addr} {m cap c7 x ln : Nat} {pre : List Nat} {v3 : World} {R : Prop}
  (hG : BegGZ F TT dgs base w g room b gl nb bb Z parts l N ops0 s) (hI : BegIZ base g room pz b parts gl ol n c Z l w s W6 xs6 ops6 A m cap (nmP dgs (bgP Z l pre)) pre.length) (hK : KX b W6 v3)
  (hp : BegIZ base g room pz b parts gl ol n c Z l w s V' ys (ops6 + 1) A7 (m + 1) c7 (nmP dgs (bgP Z l pre) ++ [rn dgs pre.length]) (pre.length + 1) ∧ (v3.heap.size ≤ V'.heap.size ∧ ∀ (j : Nat) (o : Obj), v3.heap[j]? = some o → o.isCells = false → V'.heap[j]? = some o) ∧ R)
  (hS : RS TT dgs parts nb bb xs6 (bgP Z l pre) pre.length) (hgd : Good parts (isort ltM (bgc Z l x))) (hA : AppRel xs6 (rn dgs pre.length) (runB (isort ltM (bgc Z l x))) ys) (hL : (isort ltM (bgc Z l x)).length = ln) (hN : pre.length < 320 ∧ pre.length < N) (hcl : (bgc Z l x).length = ln) (hop : 0 ≤ ops6 ∧ ops6 ≤ ops0 + pre.length) (hns : Nms ys ∧ (sumN ys : Int) ≤ room) :
  (W6.heap.size ≤ V'.heap.size ∧ ∀ (j : Nat) (o : Obj), W6.heap[j]? = some o → o.isCells = false → V'.heap[j]? = some o) ∧ KpZ (s + 2) (s + 3) W6 V' ∧ ∃ xs ops A m cap, BegIZ base g room pz b parts gl ol n c Z l w s V' xs ops A m cap (nmP dgs (bgP Z l (pre ++ [x]))) (pre ++ [x]).length ∧ RS TT dgs parts nb bb xs (bgP Z l (pre ++ [x])) (pre ++ [x]).length ∧ ((0 ≤ ops ∧ ops ≤ ops0 + (pre ++ [x]).length) ∧ Nms xs ∧ (sumN xs : Int) ≤ room) := by
 obtain ⟨hI', ⟨hsz, hnc⟩, -⟩ := hp
 have e1 : nmP dgs (bgP Z l (pre ++ [x])) = nmP dgs (bgP Z l pre) ++ [rn dgs pre.length] := by rw [bgP_snoc]; unfold nmP; rw [List.map_append]; rfl
 have e2 : (pre ++ [x]).length = pre.length + 1 := by rw [List.length_append]; rfl
 refine ⟨⟨Nat.le_trans hK.size hsz, fun j o ho hc => ?_⟩, ⟨?_, ?_⟩, ys, ops6 + 1, A7, m + 1, c7, by rw [e1, e2]; exact hI', ?_, ?_⟩
 ·have hjb : j ≠ b := fun e => by subst e; rw [hI.runs] at ho; injection ho with ho; subst ho; cases hc
  exact hnc j o (hK.kept j o ho hjb (fun cs t fr e => by subst e; cases hc)) hc
 ·have h1 := hI'.r2; rw [cell_of_row _ _ _ _ _ _ hI.r2]; exact cell_of_row _ _ _ _ _ _ h1
 ·have h1 := hI'.r3; rw [cell_of_row _ _ _ _ _ _ hI.r3]; exact cell_of_row _ _ _ _ _ _ h1
 ·rw [e2, bgP_snoc]
  refine RS.lay hG.nmr hS (by omega) hgd ?_ hA
  have h1 := bgP_tot hG.hz.1 hG.hpos (pre ++ [x])
  have h3 : (pre ++ [x]).length * min Z l.length ≤ N * min Z l.length := Nat.mul_le_mul_right _ (by rw [e2]; omega)
  have h4 := hG.hbig.2
  rw [bgP_snoc] at h1
  unfold evP at h1 ⊢
  rw [List.map_append, List.flatten_append, List.length_append] at h1
  have h5 : (List.map (·.2) [(pre.length, isort ltM (bgc Z l x))]).flatten.length = (isort ltM (bgc Z l x)).length := by simp
  rw [h5] at h1
  omega
 ·exact ⟨by rw [e2]; push_cast; omega, hns⟩
section
variable {F : Prop} {pz : Bool} {TT : Nat} {dgs : Nat → ByteArray} {W : Bs} {w : World} {g : Nat} {room : Int} {b gl ol c nb bb Z : Nat} {parts : Int} {l : List Ev} {N : Nat} {ops0 : Int} {xs : List Fil}
set_option maxHeartbeats 8000000 in
theorem beginZ_any (hG : BegGZ F TT dgs W.b w g room b gl nb bb Z parts l N ops0 w.heap.size) (HRS : RS TT dgs parts nb bb xs [] 0) (hs : SZ W g room pz ops0 xs w) (hNm : Nms xs) (hsm : (sumN xs : Int) ≤ room) (HR : RunsAt9 w b g parts none 0 0 0) (HE : EvR w gl ol l) (n : Nat) (hn : n = l.length) (hnc : n ≤ c) (hcm : c ≤ maxLen)
  (HSRT : Hid (∀ (gl' ol' n' c' : Nat) (l' : List Ev) (w' : World), n' = l'.length → n' ≤ 20 → EvAt w' (some ⟨gl', ol', none⟩) l' → Calls Tryz.prog 58 #[.slice (some ⟨gl', ol', none⟩) n' c'] w' fun e w2 => ∃ A cap, e = .returned (.slice A n' cap) ∧ OwnE w2 w'.heap.size A n' cap (isort ltM l') ∧ n' ≤ cap ∧ cap ≤ maxLen ∧ Below w'.heap.size w' w2)) :
  Calls Tryz.prog 45 #[.pointer (some ⟨b, 0, none⟩), .slice (some ⟨gl, ol, none⟩) n c, .int .i64 (Z : Int)] w fun e w' => KX b w w' ∧ ((e = .returned (.int .i64 0) ∧ ∃ xs' ops' gn cap, RS TT dgs parts nb bb xs' (bgP Z l (chZ N)) N ∧ SZ ⟨W.b, w'⟩ g room pz ops' xs' w' ∧ (Nms xs' ∧ (sumN xs' : Int) ≤ room) ∧ (0 ≤ ops' ∧ ops' ≤ ops0 + N) ∧ RunsAt9 w' b g parts (some ⟨gn, 0, none⟩) N cap N ∧ NmAt w' gn 0 (nmP dgs (bgP Z l (chZ N))) ∧ w.heap.size ≤ gn ∧ N ≤ cap ∧ cap ≤ maxLen) ∨ (∃ x : Int, e = .returned (.int .i64 x) ∧ Bad W.b g room pz F x w')) := by
 have HNm := Lib.hid (And.intro hNm hsm)
 clear hNm hsm
 have hch := chunkF_anyZ Z (by have := hG.hz; omega) (some ⟨gl, ol, none⟩) n c
 have HCH := Lib.hid hch
 clear hch
 obtain ⟨s, hss⟩ : ∃ s, s = w.heap.size := ⟨_, rfl⟩
 have HG := Lib.hid hG
 have HS := Lib.hid hss
 have HRS' := Lib.hid HRS; have Hs := Lib.hid hs; have HR' := Lib.hid HR; have HE' := Lib.hid HE
 have HNN := Lib.hid hn
 clear HRS hs HR HE hG hn
 refine (callsIn_wide (n := 5)).1 ?_
 refine callsIn_of_wp_marks Tryz.func45 rfl trivial ?_ rfl
 refine wpIn_wide.2 (wp_mono ?_ (noPanicO_imp _))
 simp only [Tryz.ntmps45, List.size_toArray, List.length_cons, List.length_nil, Nat.reduceAdd, Nat.reduceSub, Array.replicate_succ, Array.replicate_zero, List.push_toArray, List.append_toArray, List.nil_append, List.cons_append]
 go_wp2_with (go_at_call 56; (with_reducible refine (HCH.out _).mono ?_); rintro e w2 ⟨rfl, rfl⟩)
 have H0 := bw_new w b gl ol n c Z
 generalize (((w.alloc (.cells #[.pointer (some ⟨b, 0, none⟩)] 68)).alloc (.cells #[.int .i64 0] 28)).alloc (.cells #[.slice (some ⟨gl, ol, none⟩) n c] 22)).alloc (.cells #[.int .i64 (Z : Int)] 3) = W4 at *
 rw [← HS.out] at H0 HG ⊢
 have HW0 := Lib.hid H0
 have HS4 := Lib.hid H0.size
 have c2 : W4.cell? ⟨s + 2, 0, none⟩ = some (.slice (some ⟨gl, ol, none⟩) n c) := by rw [cell_of_row _ _ _ _ _ _ H0.r2]; rfl
 have c3 : W4.cell? ⟨s + 3, 0, none⟩ = some (.int .i64 (Z : Int)) := by rw [cell_of_row _ _ _ _ _ _ H0.r3]; rfl
 have HC2 := Lib.hid c2; have HC3 := Lib.hid c3
 have hb4 : Below w.heap.size w W4 := by have := H0.below; rwa [HS.out] at this
 have hk4 := KX.of_kf (b := b) (KF.of_below hb4)
 have HI0 : Hid (BegIZ W.b g room pz b parts gl ol n c Z l w s W4 xs ops0 none 0 0 [] 0) := Lib.hid ⟨H0.r0, H0.r1, H0.r2, H0.r3, World.ownsRow_nil _ _ _ 1, (Hs.out.next hb4).now, HR'.out.keep hb4, HE'.out.kx hk4 HG.out.f.hgl, by rw [H0.size]; exact Nat.le_refl _, hk4⟩
 clear hss H0 HCH c2 c3 hb4 hk4
 refine wpIn_wide (n := 5).1 ?_
 refine wpIn_rangeFunc_ownF rfl (by decide) (gf := 66) (lb := #[.pointer (some ⟨s + 2, 0, none⟩), .pointer (some ⟨s + 3, 0, none⟩)]) rfl trivial (enters_of Tryz.func66 (by kernel_rfl) rfl)
  (chunk_stopsZ (5 - 1) (by decide) Z (by have := HG.out.hz; omega) (by have := HG.out.hz; omega) (s + 2) (s + 3) gl ol n c N (by rw [HNN.out]; exact HG.out.hn) (by rw [HNN.out]; have := HG.out.hbig.1; omega) hnc hcm W4 (by have := HS4.out; omega) (by have := HS4.out; omega) HC2.out HC3.out) KpZ.trans (fun W l o o' hl _ _ _ => KpZ.putObj W l o' (by have := HS4.out; omega) (by have := HS4.out; omega)) (Below.refl _ _) (fun _ => rfl)
  (fun pre V => ∃ xs ops A m cap, BegIZ W.b g room pz b parts gl ol n c Z l w s V xs ops A m cap (nmP dgs (bgP Z l pre)) pre.length ∧ RS TT dgs parts nb bb xs (bgP Z l pre) pre.length ∧ ((0 ≤ ops ∧ ops ≤ ops0 + pre.length) ∧ Nms xs ∧ (sumN xs : Int) ≤ room)) (fun c pre V => c = .ret ∧ BegX F W.b g room pz b w s V)
  (fun pre A B row h hg hr => by
   obtain ⟨xs, ops, A1, m, cap, h1, h2⟩ := h
   exact ⟨xs, ops, A1, m, cap, h1.grown HG.out.f hg (fun r e => ⟨by have := (hr r e).1; have := HS4.out; omega, (hr r e).2⟩), h2⟩)
  (fun c pre A B row h hg hr => ⟨h.1, h.2.grown HG.out.f hg (fun r e => ⟨by have := (hr r e).1; have := HS4.out; omega, (hr r e).2⟩)⟩)
  ⟨xs, ops0, none, 0, 0, HI0.out, HRS'.out, ⟨HG.out.hops.1, by simp⟩, HNm.out⟩
  ?a1 ?assign ?body ?done ?stop
 case assign =>
  intro l x W K hK
  unfold encZ
  try simp only [List.zip_toArray, List.zip_cons_cons, List.zip_nil_right, List.zip_nil_left, List.foldl_toArray, List.foldl_cons, List.foldl_nil, List.setIfInBounds_toArray, List.set_cons_succ, List.set_cons_zero]
  gi_wp2
  exact hK
 case stop =>
  rintro D c pre V hD hsp ⟨rfl, y, hrow, hkx, hb, hsz⟩ hKD
  have hf := HG.out.f
  have hbw := hf.hb; have hws := hf.ws; have hbs := hf.bs
  have hDs : s + 4 ≤ D := by have := HS4.out; omega
  refine wpIn_ret ?_
  try dsimp only [Exit.then, Exit.inBlock, noPanicO, bodyPostM]
  refine ⟨by simp, .inl ⟨_, _, rfl, run_takeDeferred hKD, ?_⟩⟩
  refine ⟨_, results_errO rfl _ _ (s + 1) (.int .i64 y) rfl (by rw [cell_of_row _ _ _ _ _ _ (show (V.putObj D (.deferred none)).heap[s + 1]? = some _ by rw [World.putObj_heap_other (by omega)]; exact hrow)]; rfl), ⟨?_, fun j o hj hb' hn => ?_⟩, .inr ⟨y, rfl, hb.putD D _ hKD (by omega)⟩⟩
  ·have h1 := hkx.size
   simp [World.putObj]; omega
  ·have hlt := (Array.getElem?_eq_some_iff.1 hj).1
   rw [World.putObj_heap_other (by omega)]
   exact hkx.kept j o hj hb' hn
 case body =>
  rintro lp pre x W6 ⟨xs6, ops6, A, m, cap, hI, hS, hop, hns⟩ hlt
  have HNS := Lib.hid hns
  clear hns
  have HI := Lib.hid hI; have HRSx := Lib.hid hS; have HOP := Lib.hid hop; have HLT := Lib.hid hlt
  have hpos := HG.out.hpos
  have hlf := lnZ_facts (Z := Z) (len := n) (j := x) HG.out.hz.1 (by rw [HNN.out]; exact hpos)
  obtain ⟨ln, hln⟩ : ∃ ln, ln = lnZ Z n x := ⟨_, rfl⟩
  obtain ⟨st, hst⟩ : ∃ st, st = ol + stZ Z n x * 5 := ⟨_, rfl⟩
  have hcl := bgc_len HG.out.hz.1 hpos x
  rw [← HNN.out, ← hln] at hcl
  have HCL := Lib.hid hcl
  have HLF : Hid (0 < ln ∧ ln ≤ min TT 320 ∧ ln ≤ 20) := Lib.hid (by rw [hln]; have h1 := HG.out.mz; have h3 := HG.out.hz; have h2 := HNN.out; omega)
  have hch := hI.ev.chunk (Z := Z) hpos x
  rw [← HNN.out, ← hst] at hch
  have HCHK := Lib.hid hch
  rw [← hln, ← hst]
  clear hln hst hlf hcl hch
  gi_wp2
  have c0 : W6.drew.cell? ⟨s, 0, none⟩ = some (.pointer (some ⟨b, 0, none⟩)) := by
   rw [cell_of_row _ _ _ _ _ _ (show W6.drew.heap[s]? = _ from hI.r0)]; rfl
  have hbd : Below W6.heap.size W6 W6.drew := (Below.refl _ _).drew
  have HBD := Lib.hid hbd
  have HSO := Lib.hid (HSRT.out gl st ln ln (bgc Z l x) W6.drew HCL.out.symm (by have := HLF.out; omega) (HCHK.out.keep hbd))
  clear hI hS hop hlt hbd hpos
  refine wpIn_region_round (S := fun w => w.cell? ⟨s, 0, none⟩ = some (.pointer (some ⟨b, 0, none⟩))) (by kernel_rfl) (by simp) (fun ⟨_, _, h⟩ => h) c0 (fun hHeld => ?_)
  refine tk 0 (.pointer (some ⟨b, 0, none⟩)) rfl (ylO lv_rnsO rfl (.tmp 3) rfl s 0 rfl _ (fun w hw => hw)) hHeld ?_
  try simp only [qz]
  refine tkm 1 (.slice (some ⟨gl, st, none⟩) ln ln) rfl hHeld ?_
  try simp only [qz]
  refine rd1 2 rfl (fun K hK => ?_)
  go_simp
  refine (HSO.out.mono ?_)
  rintro e v1 ⟨A1, cap1, rfl, h1, h2, h3, h4⟩
  obtain ⟨q, rfl⟩ := ownE_some h1 HLF.out.1 h2
  have HO1 := Lib.hid h1; have HC1 := Lib.hid (And.intro h2 h3); have HB1 := Lib.hid h4
  have c1 : v1.cell? ⟨s, 0, none⟩ = some (.pointer (some ⟨b, 0, none⟩)) := by
   rw [cell_of_row _ _ _ _ _ _ (row_kept (show W6.drew.heap[s]? = _ from HI.out.r0) h4)]; rfl
  clear h1 h2 h3 h4
  refine hK.out _ _ c1 (fun hHeld => ?_)
  clear hK K c1
  try simp only [qz]
  have HBV : Hid (Below W6.heap.size W6 v1) := Lib.hid (bto HBD.out HB1.out)
  have HN1 : Hid (pre.length < 320 ∧ pre.length < N) := Lib.hid ⟨by have := HG.out.Nle; have := HLT.out; omega, HLT.out⟩
  have HGD : Hid (Good parts (isort ltM (bgc Z l x))) := Lib.hid (Good.first (by rw [HCL.out]; exact HLF.out.1) (fun y hy => HG.out.fine y (bgc_mem hy)) (fun y hy => HG.out.form y (bgc_mem hy)))
  have HLL : Hid ((isort ltM (bgc Z l x)).length = ln) := Lib.hid (by rw [isort_len]; exact HCL.out)
  have hLY := lay_Z (pz := pz) (W := ⟨W.b, W6⟩) (xs := xs6) (ops := ops6) (g := g) (room := room) (nm := rn dgs pre.length) (dg := dgs pre.length) b parts A m cap pre.length q 0 ln cap1 (isort ltM (bgc Z l x)) (Lib.hid HLL.out.symm) HLF.out.1 (by have := HLF.out; omega) HC1.out.1 HC1.out.2 (Lib.hid HGD.out.fine) v1 (Lib.hid HO1.out.at') (Lib.hid (HI.out.sa.next HBV.out)) (Lib.hid (by have h1 := HOP.out; have h2 := HG.out.hops; have h3 := HN1.out; omega)) (Lib.hid (HI.out.runs.keep HBV.out)) (by have := HN1.out; omega) (Lib.hid HG.out.hg) HG.out.hgg HG.out.f.bb
   (Lib.hid (HG.out.nmr.itoa _ (by have := HN1.out; omega))) (HG.out.nmr.size _ (by have := HN1.out; omega)) (Lib.hid rfl) (HG.out.nmr.form _ (by have := HN1.out; omega)) (Lib.hid HNS.out.1) (by have h1 := HRSx.out.num; rw [bgP_len] at h1; have h2 := HG.out.hnb; have h3 := HN1.out; omega) HG.out.hroom (by have := HNS.out.2; omega) HNS.out.2 F
   (fun hh => beg_fit HRSx.out (HGD.out.bytes (by rw [HLL.out]; have := HLF.out; omega)) (by rw [HLL.out]; exact HLF.out.2.1) (HG.out.hfit hh))
  have HLY := Lib.hid hLY
  clear hLY
  refine rd1 3 rfl (fun K hK => ?_)
  go_simp
  refine (HLY.out.mono ?_)
  rintro e v2 ⟨x2, rfl, h1, h2⟩
  have HK2 : Hid (KX b W6 v2) := Lib.hid ((KX.of_kf (KF.of_below HBV.out)).trans (KX.of_set h1))
  have HRW : Hid (RunsAt9 v2 b g parts A m cap (pre.length + 1)) := Lib.hid (RunsAt9.kf (row_set (HI.out.runs.keep HBV.out) 3 _) h1)
  have HE2 := Lib.hid h2
  have hsb : s ≠ b := by have h3 := HG.out.f.hb; have h4 := HG.out.f.ws; omega
  have hsb1 : s + 1 ≠ b := by have h3 := HG.out.f.hb; have h4 := HG.out.f.ws; omega
  have c2 : v2.cell? ⟨s, 0, none⟩ = some (.pointer (some ⟨b, 0, none⟩)) := by
   rw [cell_of_row _ _ _ _ _ _ (HK2.out.row hsb HI.out.r0 (not_st (by decide) (by decide) (by decide)))]; rfl
  have HR1 := Lib.hid (HK2.out.row hsb1 HI.out.r1 (not_st (by decide) (by decide) (by decide)))
  clear h1 h2 hsb hsb1
  refine hK.out _ _ c2 (fun hHeld => ?_)
  clear hK K c2
  try simp only [qz]
  refine tkm 4 (.tuple #[.string (rn dgs pre.length), .int .i64 x2]) rfl hHeld ?_
  try simp only [qz]
  refine tks 5 (.string (rn dgs pre.length)) rfl hHeld ?_
  try simp only [qz]
  refine tks 6 (.int .i64 x2) rfl hHeld ?_
  try simp only [qz]
  refine tkm 7 (.string (rn dgs pre.length)) rfl hHeld ?_
  try simp only [qz]
  refine tkm 8 (.int .i64 x2) rfl hHeld ?_
  try simp only [qz]
  refine wpAnyH_done (by kernel_rfl) ?_ _
  clear hHeld
  rcases HE2.out with ⟨rfl, hsz2, ys, h2, h3⟩ | hbad
  rotate_left 1
  ·have hx0 : x2 ≠ 0 := by rcases hbad.e_pos with rfl | rfl <;> decide
   have HBD2 := Lib.hid hbad
   have c1 : v2.cell? ⟨s + 1, 0, none⟩ = some (.int .i64 0) := by rw [cell_of_row _ _ _ _ _ _ HR1.out]; rfl
   have f1 : v2.frozen? ⟨s + 1, 0, none⟩ = false := row_frozen HR1.out 0
   clear hbad
   gi_wp2
   have hf := HG.out.f
   have hbb := hf.hb; have hws := hf.ws; have hbs := hf.bs
   have h1 := HI.out.kx.trans HK2.out
   refine ⟨⟨by rw [setCell_size]; exact HK2.out.size, fun j o ho hc => ?_⟩, rfl, x2, row_set HR1.out 0 _, ⟨by rw [setCell_size]; exact h1.size, fun j o ho hb hn => row_far (by have := (Array.getElem?_eq_some_iff.1 ho).1; omega) (h1.kept j o ho hb hn)⟩, HBD2.out.setB (s + 1) 0 _ HR1.out (not_st (by decide) (by decide) (by decide)) (by omega), by rw [setCell_size]; have := HK2.out.size; have := HI.out.size; omega⟩
   have hjb : j ≠ b := fun e => by subst e; rw [HI.out.runs] at ho; injection ho with ho; subst ho; cases hc
   have hne : s + 1 ≠ j := fun e => by subst e; rw [HI.out.r1] at ho; injection ho with ho; subst ho; cases hc
   exact row_far hne (HK2.out.kept j o ho hjb (fun cs t fr e => by subst e; cases hc))
  have HA2 := Lib.hid h2
  have HS2 := Lib.hid h3
  have hfa := h2.facts HNS.out.1.rises
  have HNY : Hid (Nms ys ∧ (sumN ys : Int) ≤ room) := Lib.hid ⟨HNS.out.1.app h2 (by have h1 := HRSx.out.num; rw [bgP_len] at h1; have h2 := HG.out.hnb; have h3 := HN1.out; omega) ⟨runT_pre _, HG.out.nmr.rsize (by have := HN1.out; omega), HG.out.nmr.form _ (by have := HN1.out; omega)⟩, by have := hfa.2.1; omega⟩
  have HI2 : Hid (BegIZ W.b g room pz b parts gl ol n c Z l w s v2 ys (ops6 + 1) A m cap (nmP dgs (bgP Z l pre)) (pre.length + 1)) := Lib.hid (HI.out.next HG.out.f HK2.out h3 HRW.out)
  clear h2 h3 hfa hsz2 HE2
  gi_wp2
  have hbd2 : Below v2.heap.size v2 v2.drew := (Below.refl _ _).drew
  have HI3 : Hid (BegIZ W.b g room pz b parts gl ol n c Z l w s v2.drew ys (ops6 + 1) A m cap (nmP dgs (bgP Z l pre)) (pre.length + 1)) := Lib.hid (HI2.out.next HG.out.f (KX.of_kf (KF.of_below hbd2)) (HI2.out.sa.next hbd2).now (HI2.out.runs.keep hbd2))
  have HK3 : Hid (KX b W6 v2.drew) := Lib.hid (HK2.out.trans (KX.of_kf (KF.of_below hbd2)))
  have HML : Hid (m = pre.length) := Lib.hid (by have h := HI.out.own.len; rw [h]; unfold nmP; rw [List.length_map, bgP_len])
  clear hbd2
  obtain ⟨v3, hv3⟩ : ∃ v3, v3 = v2.drew := ⟨_, rfl⟩
  have c3 : v3.cell? ⟨s, 0, none⟩ = some (.pointer (some ⟨b, 0, none⟩)) := by
   rw [hv3, cell_of_row _ _ _ _ _ _ HI3.out.r0]; rfl
  refine wpIn_region_round (S := fun w => w.cell? ⟨s, 0, none⟩ = some (.pointer (some ⟨b, 0, none⟩))) (by kernel_rfl) (by simp) (fun ⟨_, _, h⟩ => h) (by rw [← hv3]; exact c3) (fun hHeld => ?_)
  rw [← hv3] at hHeld HI3 HK3 ⊢
  clear hv3 HI2 HK2 HRW HS2
  refine tk 0 (.pointer (some ⟨b, 0, none⟩)) rfl (ylO lv_rnsO rfl (.tmp 3) rfl s 0 rfl _ (fun w hw => hw)) hHeld ?_
  try simp only [qz]
  refine tk 1 (.pointer (some ⟨b, 0, none⟩)) rfl (ylO lv_rnsO rfl (.tmp 3) rfl s 0 rfl _ (fun w hw => hw)) hHeld ?_
  try simp only [qz]
  refine tks 2 (.pointer (some ⟨b, 0, none⟩)) rfl hHeld ?_
  try simp only [qz]
  refine tks 3 (.pointer (some ⟨b, 2, none⟩)) rfl hHeld ?_
  try simp only [qz]
  refine tkm 5 (.string (rn dgs pre.length)) rfl hHeld ?_
  try simp only [qz]
  have cb3 : v3.cell? ⟨b, 2, none⟩ = some (.slice A m cap) := by rw [cell_of_row _ _ _ _ _ _ HI3.out.runs]; rfl
  have cb4 : (v3.alloc (.cells #[.string (rn dgs pre.length)] 9)).cell? ⟨b, 2, none⟩ = some (.slice A m cap) := by
   rw [cell_of_row _ _ _ _ _ _ (HI3.out.runs.keep ((Below.refl _ v3).alloc (Nat.le_refl _) _))]; rfl
  have c4 : (v3.alloc (.cells #[.string (rn dgs pre.length)] 9)).cell? ⟨s, 0, none⟩ = some (.pointer (some ⟨b, 0, none⟩)) := by
   rw [cell_of_row _ _ _ _ _ _ (row_kept HI3.out.r0 ((Below.refl _ v3).alloc (Nat.le_refl _) _))]; rfl
  have HOX := Lib.hid (HI3.out.own.kf (KF.of_below ((Below.refl _ v3).alloc (Nat.le_refl _) (.cells #[.string (rn dgs pre.length)] 9))))
  refine wpAnyH_ready (rs := [4, 6]) (by kernel_rfl) (by simp) (AllReadyH.cons rfl (fun K hK => ?_) (AllReadyH.cons rfl (fun K hK => ?_) AllReadyH.nil))
  ·refine wp_ld_txsO (.tmp 27) rfl b 2 rfl (.slice A m cap) cb3 ?_
   refine hK.out _ _ c3 (fun hHeld => ?_)
   clear hK K
   try simp only [qz]
   refine rd1 6 rfl (fun K hK => ?_)
   go_simp
   refine hK.out _ _ c4 (fun hHeld => ?_)
   clear hK K
   try simp only [qz]
   refine rd1 7 rfl (fun K hK => ?_)
   refine wp_append_T (.tmp 28) (.tmp 30) rfl (s + 4) A m cap (nmP dgs (bgP Z l pre)) rfl HOX.out v3.heap.size 0 (rn dgs pre.length) rfl (by simp [World.cell?_alloc_new]) (by have := HML.out; have := HN1.out; omega) (by have := HI3.out.size; simp; omega) ?_
   intro A7 c7 w7 ho hg
   have hput := HI3.out.put HG.out.f ho hg
   have c7s : w7.cell? ⟨s, 0, none⟩ = some (.pointer (some ⟨b, 0, none⟩)) := by
    have h1 := hput.1.r0
    have h2 : s ≠ b := by have h3 := HG.out.f.hb; have h4 := HG.out.f.ws; omega
    rw [← cell_far h2 2 0 (.slice A7 (m + 1) c7), cell_of_row _ _ _ _ _ _ h1]; rfl
   have HPUT := Lib.hid hput
   clear ho hg hput
   refine hK.out _ _ c7s (fun hHeld => ?_)
   clear hK K
   try simp only [qz]
   refine tks 8 (.pointer (some ⟨b, 0, none⟩)) rfl hHeld ?_
   try simp only [qz]
   refine tks 9 (.pointer (some ⟨b, 2, none⟩)) rfl hHeld ?_
   try simp only [qz]
   refine rd1 10 rfl (fun K hK => ?_)
   refine wp_st_txsO (.tmp 33) (.tmp 31) rfl b 2 rfl A7 (m + 1) c7 rfl (u := .slice A m cap) (by rw [cell_of_row _ _ _ _ _ _ HPUT.out.2.2]; rfl) (row_frozen HPUT.out.2.2 2) ?_
   refine hK.out _ _ (by rw [cell_of_row _ _ _ _ _ _ HPUT.out.1.r0]; rfl) (fun hHeld => ?_)
   clear hK K
   try simp only [qz]
   refine wpAnyH_done (by kernel_rfl) ?_ _
   clear hHeld
   gi_wp2
   obtain ⟨q1, q2, q3⟩ := beg_endZ HG.out HI.out HK3.out HPUT.out HRSx.out HGD.out HA2.out HLL.out HN1.out HCL.out HOP.out HNY.out
   exact ⟨⟨q1.1, q1.2⟩, q2, q3⟩
  ·go_simp
   refine hK.out _ _ c4 (fun hHeld => ?_)
   clear hK K
   try simp only [qz]
   refine rd1 4 rfl (fun K hK => ?_)
   refine wp_ld_txsO (.tmp 27) rfl b 2 rfl (.slice A m cap) cb4 ?_
   refine hK.out _ _ c4 (fun hHeld => ?_)
   clear hK K
   try simp only [qz]
   refine rd1 7 rfl (fun K hK => ?_)
   refine wp_append_T (.tmp 28) (.tmp 30) rfl (s + 4) A m cap (nmP dgs (bgP Z l pre)) rfl HOX.out v3.heap.size 0 (rn dgs pre.length) rfl (by simp [World.cell?_alloc_new]) (by have := HML.out; have := HN1.out; omega) (by have := HI3.out.size; simp; omega) ?_
   intro A7 c7 w7 ho hg
   have hput := HI3.out.put HG.out.f ho hg
   have c7s : w7.cell? ⟨s, 0, none⟩ = some (.pointer (some ⟨b, 0, none⟩)) := by
    have h1 := hput.1.r0
    have h2 : s ≠ b := by have h3 := HG.out.f.hb; have h4 := HG.out.f.ws; omega
    rw [← cell_far h2 2 0 (.slice A7 (m + 1) c7), cell_of_row _ _ _ _ _ _ h1]; rfl
   have HPUT := Lib.hid hput
   clear ho hg hput
   refine hK.out _ _ c7s (fun hHeld => ?_)
   clear hK K
   try simp only [qz]
   refine tks 8 (.pointer (some ⟨b, 0, none⟩)) rfl hHeld ?_
   try simp only [qz]
   refine tks 9 (.pointer (some ⟨b, 2, none⟩)) rfl hHeld ?_
   try simp only [qz]
   refine rd1 10 rfl (fun K hK => ?_)
   refine wp_st_txsO (.tmp 33) (.tmp 31) rfl b 2 rfl A7 (m + 1) c7 rfl (u := .slice A m cap) (by rw [cell_of_row _ _ _ _ _ _ HPUT.out.2.2]; rfl) (row_frozen HPUT.out.2.2 2) ?_
   refine hK.out _ _ (by rw [cell_of_row _ _ _ _ _ _ HPUT.out.1.r0]; rfl) (fun hHeld => ?_)
   clear hK K
   try simp only [qz]
   refine wpAnyH_done (by kernel_rfl) ?_ _
   clear hHeld
   gi_wp2
   obtain ⟨q1, q2, q3⟩ := beg_endZ HG.out HI.out HK3.out HPUT.out HRSx.out HGD.out HA2.out HLL.out HN1.out HCL.out HOP.out HNY.out
   exact ⟨⟨q1.1, q1.2⟩, q2, q3⟩
 case done =>
  rintro D qs W5 hD rfl ⟨xs5, ops5, A, m, cap, hI, hS, hop, hns⟩ hKD
  have HNS := Lib.hid hns
  clear hns
  rw [chZ_len] at hI hS hop
  have HDS : Hid (s + 4 ≤ D) := Lib.hid (by have := HS4.out; omega)
  have HI := Lib.hid hI; have HRS5 := Lib.hid hS; have HOP := Lib.hid hop; have HDD := Lib.hid hKD
  have hmN : m = N := by rw [hI.own.len]; unfold nmP; rw [List.length_map, bgP_len, chZ_len]
  have hN0 : 0 < N := (HG.out.hn 0).1 (by have := HG.out.hpos; omega)
  obtain ⟨gq, hA, hgq, hnm, hmc, hcmx, cur, hrow⟩ := hI.own.caps (by omega)
  subst hA
  have cx : W5.cell? ⟨s + 1, 0, none⟩ = some (.int .i64 0) := by rw [cell_of_row _ _ _ _ _ _ hI.r1]; rfl
  have fx : W5.frozen? ⟨s + 1, 0, none⟩ = false := row_frozen hI.r1 0
  have HMN := Lib.hid hmN; have HGQ := Lib.hid hgq; have HNM := Lib.hid hnm; have HCP := Lib.hid (And.intro hmc hcmx)
  clear hI hS hop hKD hD hmN hgq hnm hmc hrow HI0 HW0
  go_wp2_with fail
  have hf := HG.out.f
  have hbw := hf.hb; have hws := hf.ws; have hds := HDS.out; have hbb := hf.bb; have hbs := hf.bs
  obtain ⟨W8, hW8⟩ : ∃ W8, W8 = W5.setCell ⟨s + 1, 0, none⟩ (.int .i64 0) := ⟨_, rfl⟩
  rw [← hW8]
  have far : ∀ (j : Nat) (o : Obj), W5.heap[j]? = some o → j ≠ s + 1 → W8.heap[j]? = some o := fun j o hj h2 => by
   rw [hW8]; exact row_far (Ne.symm h2) hj
  have HD8 : W8.heap[D]? = some (.deferred (some [])) := far D _ HDD.out (by omega)
  have hr1 : W8.heap[s + 1]? = some (.cells #[.int .i64 0] 28 (0, 0)) := by
   rw [hW8]; exact row_set HI.out.r1 0 _
  have put : ∀ (j : Nat) (o : Obj), W8.heap[j]? = some o → j ≠ D → (W8.putObj D (.deferred none)).heap[j]? = some o := fun j o hj hn => by
   rw [World.putObj_heap_other hn]; exact hj
  have hsa : SZ ⟨W.b, W8⟩ g room pz ops5 xs5 W8 := by
   have h2 := HI.out.sa.setB (s + 1) 0 (.int .i64 0) HI.out.r1 (not_st (by decide) (by decide) (by decide)) (by show W.b.heap.size ≤ s + 1; omega)
   rw [hW8]; exact h2
  try dsimp only [noPanicO, bodyPostM]
  refine ⟨by simp, .inl ⟨_, _, rfl, run_takeDeferred HD8, ?_⟩⟩
  refine ⟨_, results_errO rfl _ _ (s + 1) (.int .i64 0) rfl (by rw [cell_of_row _ _ _ _ _ _ (put _ _ hr1 (by omega))]; rfl), ⟨?_, fun j o hj hb hn => ?_⟩, .inl ⟨rfl, xs5, ops5, gq, cap, HRS5.out, ?_, HNS.out, HOP.out, ?_, ?_, by rw [← HS.out]; have := HGQ.out; omega, by rw [← HMN.out]; exact HCP.out.1, HCP.out.2⟩⟩
  ·have h1 := HI.out.kx.size
   have h2 : W8.heap.size = W5.heap.size := by rw [hW8, setCell_size]
   simp [World.putObj]; omega
  ·have hlt := (Array.getElem?_eq_some_iff.1 hj).1
   exact put _ _ (far _ _ (HI.out.kx.kept j o hj hb hn) (by omega)) (by omega)
  ·exact hsa.putD D _ HD8 (by show W.b.heap.size ≤ D; omega)
  ·have h1 := put _ _ (far _ _ HI.out.runs (by omega)) (by omega)
   rw [HMN.out] at h1; exact h1
  ·obtain ⟨cur, t, fr, q1, q2, q3⟩ := HNM.out
   have hq := HGQ.out
   exact ⟨cur, t, fr, put _ _ (far _ _ q1 (by omega)) (fun e => by subst e; rw [HDD.out] at q1; cases q1), q2, q3⟩
end
end Go.Proofs.YtjldamkmdkaiiaaGreatDoor
