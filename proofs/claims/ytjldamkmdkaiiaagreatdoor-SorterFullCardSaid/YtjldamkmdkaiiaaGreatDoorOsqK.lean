/-
  Layer sorter: pass: all runs are merged, so many at once, where the power may go off, or there may be no room.
-/
import Derived.RangeFuncFrom
import Derived.OrdersIn
import Derived.Sort.CutIn
import Derived.Test.YtjldamkmdkaiiaaGreatDoorOspK
set_option linter.unusedSimpArgs false
set_option linter.unusedVariables false
set_option maxRecDepth 8000
namespace Go.Proofs.YtjldamkmdkaiiaaGreatDoor
open Go.RowKit Go.WideShapes Col Go.Sort Go.Shelf
attribute [local go_sem] Oper.semAt_some
theorem OwnT.caps {w : World} {B n cap : Nat} {A : Option Addr} {l : List ByteArray} (h : OwnT w B A n cap l) (h0 : 0 < n) : ∃ q, A = some ⟨q, 0, none⟩ ∧ B ≤ q ∧ NmAt w q 0 l ∧ n ≤ cap ∧ cap ≤ maxLen ∧ ∃ cur, w.heap[q]? = some (.cells cur 9 (0, 0)) := by
 obtain ⟨q, rfl, h2, h3⟩ := h.nm h0
 rcases h.2 with ⟨h1, -⟩ | ⟨g, cap', cur, h1, hb, hrow, hn, hm, hs, ht⟩
 ·cases h1
 ·injection h1 with h4 h5 h6
  injection h4 with h4; injection h4 with h4 _ _
  subst h4; subst h6
  exact ⟨q, rfl, h2, h3, hn, hm, cur, hrow⟩
theorem wpListIn_append_T {F : Fence} {n1 : Nat} {w : World} {ops : Array Oper} {rest : List Oper} {o : Oper} {ac : Act} {Q : Exit → Act → World → Prop} (hgd : o.guard = none) (s x : Operand)
  (ho : o.op = .call { callee := .builtin .append, args := #[s, x], argTypes := #[37, 37] })
  (B : Nat) (A : Option Addr) (n cap : Nat) (l : List ByteArray) (hs : ac.eval s = .slice A n cap) (hown : OwnT w B A n cap l) (aq ao : Nat) (t : ByteArray) (hx : ac.eval x = .slice (some ⟨aq, ao, none⟩) 1 1) (h2 : w.cell? ⟨aq, ao, none⟩ = some (.string t))
  (hbytes : n ≤ 1000) (hbase : B ≤ w.heap.size)
  (h : ∀ A' cap' w', OwnT w' B A' (n + 1) cap' (l ++ [t]) → w.grownBy w' (A.map (·.block)) → wpListIn F n1 Tryz.prog ops Q rest (ac.put o.dst (.slice A' (n + 1) cap')) w') : wpListIn F n1 Tryz.prog ops Q (o :: rest) ac w := by
 obtain ⟨i0, hi, hz0, hz1, hz2⟩ := info_parts infoStrF
 refine wpListIn_append_own w hgd s x 37 ho B 9 i0 _ 1 16 Tryz.underlying37 hi hz0 hz1 hz2 rfl (by decide) (.slice A n cap) n (tvT l) hs hown ⟨aq, ao, none⟩ 1 1 (tvT [t]) hx rfl (fun j u hu => ?_) (fun u hu => ?_) (by unfold maxLen; omega) (by omega) hbase ?_
 ·rcases j with _ | j
  ·injection hu with hu; subst hu
   rw [Addr.add_lit, Nat.add_zero]; exact h2
  ·cases hu
 ·obtain ⟨y, -, rfl⟩ := List.mem_map.1 hu; rfl
 ·intro v' w2 hown2 hgr _
  have e : tvT l ++ tvT [t] = tvT (l ++ [t]) := by unfold tvT; rw [List.map_append]
  rw [e] at hown2
  obtain ⟨A1, c1, rfl⟩ : ∃ A1 c1, v' = .slice A1 (n + 1) c1 := by
   rcases hown2.2 with ⟨h1, h3⟩ | ⟨g, cap', cur, h1, -⟩
   ·omega
   ·exact ⟨_, _, h1⟩
  exact h A1 c1 w2 hown2 (by rcases A with _ | a <;> exact hgr)
theorem results_errO {fn : Func} {p : Tmp} (h : fn.results = #[.cell p 28]) (tmps : Array Value) (w : World) (g : Nat) (v : Value) (hp : tmps.getD p undef = .pointer (some ⟨g, 0, none⟩)) (hc : w.cell? ⟨g, 0, none⟩ = some v) : (results fn tmps).run Tryz.prog w = .ok v w := by
 rw [Array.getD_eq_getD_getElem?] at hp
 simp [results, h, hp]
 go_simp
theorem round_rows {base w W v : World} {g : Nat} {room : Int} {b gn nn cn Z : Nat} {parts : Int} {nms names : List ByteArray} {s : Nat} {xs : List Fil} {ops : Int} {A : Option Addr} {m cap k : Nat} {e : Ending} {P : ByteArray → Prop} {R : Prop} (hf : PassF base w b gn s) (hI : PassI base g room b parts gn nn cn Z nms w s W xs ops A m cap names k)
  (h : (∃ nm, e = .returned (.tuple #[.string nm, .int .i64 0]) ∧ KX b W v ∧ P nm) ∨ (e = .returned (.tuple #[.string { data := #[] }, .int .i64 5]) ∧ Below W.heap.size W v ∧ R)) :
  v.heap[s + 1]? = some (.cells #[.int .i64 0] 28 (0, 0)) ∧ v.heap[s + 2]? = some (.cells #[.slice A m cap] 37 (0, 0)) ∧ OwnT v (s + 5) A m cap names ∧ s + 5 ≤ v.heap.size := by
 have hk : KX b W v := by
  rcases h with ⟨nm, -, h, -⟩ | ⟨-, h, -⟩
  ·exact h
  ·exact KX.of_kf (KF.of_below h)
 have h1 := hf.hb; have h2 := hf.ws
 exact ⟨hk.row (by omega) hI.r1 (not_st (by decide) (by decide) (by decide)), hk.row (by omega) hI.r2 (not_st (by decide) (by decide) (by decide)), hI.own.kx hk (by omega), Nat.le_trans hI.size hk.size⟩
section
variable {TT : Nat} {dgs : Nat → ByteArray} {W : Bs} {w : World} {g : Nat} {room : Int} {b gn nn cn nb bb Z : Nat} {parts : Int} {ps : List (Nat × List Ev)} {N k0 : Nat} {ops0 : Int} {xs : List Fil}
set_option maxHeartbeats 8000000 in
theorem pass_any (hG : PassG TT dgs W.b w g room b gn nn nb bb Z ps N k0 ops0 w.heap.size) (HRS : RS TT dgs parts nb bb xs ps k0) (hs : SA W g room false 0 ops0 xs w) (HR : RunsAt9 w b g parts (some ⟨gn, 0, none⟩) nn cn k0) (HN : NmAt w gn 0 (nmP dgs ps)) (hncn : nn ≤ cn) (hcm : cn ≤ maxLen) :
  Calls Tryz.prog 46 #[.pointer (some ⟨b, 0, none⟩), .int .i64 (Z : Int)] w fun e w' => e = .returned (.int .i64 0) ∧ ∃ xs' ops' gn' cap', RS TT dgs parts nb bb xs' (pst Z ps k0 N).1 (pst Z ps k0 N).2 ∧ SA ⟨W.b, w'⟩ g room false 0 ops' xs' w' ∧ (0 ≤ ops' ∧ ops' ≤ ops0 + 20 * N) ∧ RunsAt9 w' b g parts (some ⟨gn', 0, none⟩) N cap' (pst Z ps k0 N).2 ∧ NmAt w' gn' 0 (nmP dgs (pst Z ps k0 N).1) ∧ w.heap.size ≤ gn' ∧ N ≤ cap' ∧ cap' ≤ maxLen ∧ KX b w w' := by
 have hch := chunkF_anyT Z (by have := hG.hz; omega) (some ⟨gn, 0, none⟩) nn cn
 have HCH := Lib.hid hch
 clear hch
 obtain ⟨s, hss⟩ : ∃ s, s = w.heap.size := ⟨_, rfl⟩
 have HG := Lib.hid hG
 have HS := Lib.hid hss
 have hrb : ∀ w', Below w.heap.size w w' → w'.cell? ⟨b, 2, none⟩ = some (.slice (some ⟨gn, 0, none⟩) nn cn) := fun w' hb => by
  rw [cell_of_row _ _ _ _ _ _ (HR.keep hb)]; rfl
 have hbl : b < w.heap.size := hG.f.hb
 have c2 : ∀ (o1 o2 o3 : Obj), (((w.alloc o1).alloc o2).alloc o3).cell? ⟨b, 2, none⟩ = some (.slice (some ⟨gn, 0, none⟩) nn cn) := fun o1 o2 o3 => hrb _ ((((Below.refl _ _).alloc (Nat.le_refl _) _).alloc (by simp) _).alloc (by simp; omega) _)
 have HRS' := Lib.hid HRS; have Hs := Lib.hid hs; have HR' := Lib.hid HR; have HN' := Lib.hid HN
 clear HRS hs HR HN hG hrb
 refine (callsIn_wide (n := 5)).1 ?_
 refine callsIn_of_wp_marks Tryz.func46 rfl trivial ?_ rfl
 refine wpIn_wide.2 (wp_mono ?_ (noPanicO_imp _))
 simp only [Tryz.ntmps46, List.size_toArray, List.length_cons, List.length_nil, Nat.reduceAdd, Nat.reduceSub, Array.replicate_succ, Array.replicate_zero, List.push_toArray, List.append_toArray, List.nil_append, List.cons_append]
 have c2' := c2 (.cells #[.pointer (some ⟨b, 0, none⟩)] 68) (.cells #[.int .i64 0] 28) (.cells #[.slice none 0 0] 37)
 go_wp2_with (go_at_call 59; (with_reducible refine (HCH.out _).mono ?_); rintro e w2 ⟨rfl, rfl⟩)
 have H0 := pw_new w b gn nn cn Z
 generalize ((((w.alloc (.cells #[.pointer (some ⟨b, 0, none⟩)] 68)).alloc (.cells #[.int .i64 0] 28)).alloc (.cells #[.slice none 0 0] 37)).alloc (.cells #[.slice (some ⟨gn, 0, none⟩) nn cn] 37)).alloc (.cells #[.int .i64 (Z : Int)] 3) = W4 at *
 rw [← HS.out] at H0 HG ⊢
 have HW0 := Lib.hid H0
 have HS4 := Lib.hid H0.size
 have c3 : W4.cell? ⟨s + 3, 0, none⟩ = some (.slice (some ⟨gn, 0, none⟩) nn cn) := by rw [cell_of_row _ _ _ _ _ _ H0.r3]; rfl
 have c4 : W4.cell? ⟨s + 4, 0, none⟩ = some (.int .i64 (Z : Int)) := by rw [cell_of_row _ _ _ _ _ _ H0.r4]; rfl
 have HC3 := Lib.hid c3; have HC4 := Lib.hid c4
 have hb4 : Below w.heap.size w W4 := by have := H0.below; rwa [HS.out] at this
 have HJ0 : Hid (PassJ TT W.b g room dgs b parts gn nn cn nb bb Z ps N k0 ops0 w s [] W4 xs ops0 none 0 0 [] [] k0) := Lib.hid ⟨⟨H0.r0, H0.r1, H0.r2, H0.r3, H0.r4, World.ownsRow_nil _ _ _ 1, (Hs.out.next hb4).now, HR'.out.keep hb4, HN'.out.kf (KF.of_below hb4), by rw [H0.size]; exact Nat.le_refl _, KX.of_kf (KF.of_below hb4)⟩,
  PassS.start HRS'.out (by have h1 := HG.out.hn N; have := HG.out.hnn; omega), rfl, ⟨HG.out.hops.1, by simp⟩, fun _ => ⟨rfl, rfl, rfl⟩⟩
 clear hss H0 c2 c2' hbl HCH c3 c4 hb4
 refine wpIn_wide (n := 5).1 ?_
 refine wpIn_rangeFunc_ownF rfl (by decide) (gf := 72) (lb := #[.pointer (some ⟨s + 3, 0, none⟩), .pointer (some ⟨s + 4, 0, none⟩)]) rfl trivial (enters_of Tryz.func72 (by kernel_rfl) rfl)
  (chunk_stopsT (5 - 1) (by decide) Z (by have := HG.out.hz; omega) (by have := HG.out.hz; omega) (s + 3) (s + 4) gn 0 nn cn N HG.out.hn (by have := HG.out.hnn; have := HRS'.out.count; omega) hncn hcm W4 (by have := HS4.out; omega) (by have := HS4.out; omega) HC3.out HC4.out) KpZ.trans (fun W l o o' hl _ _ _ => KpZ.putObj W l o' (by have := HS4.out; omega) (by have := HS4.out; omega)) (Below.refl _ _) (fun _ => rfl)
  (fun pre V => ∃ xs ops A m cap names dn k, PassJ TT W.b g room dgs b parts gn nn cn nb bb Z ps N k0 ops0 w s pre V xs ops A m cap names dn k) (fun _ pre _ => pre ≠ chZ pre.length)
  (fun pre A B row h hg hr => by
   obtain ⟨xs, ops, A1, m, cap, names, dn, k, h1, h2⟩ := h
   exact ⟨xs, ops, A1, m, cap, names, dn, k, h1.grown HG.out.f hg (fun r e => ⟨by have := (hr r e).1; have := HS4.out; omega, (hr r e).2⟩), h2⟩)
  (fun _ _ _ _ _ hs _ _ => hs)
  ⟨xs, ops0, none, 0, 0, [], [], k0, HJ0.out⟩
  ?a1 ?assign ?body ?done ?stop
 case assign =>
  intro l x W K hK
  unfold encZT
  try simp only [List.zip_toArray, List.zip_cons_cons, List.zip_nil_right, List.zip_nil_left, List.foldl_toArray, List.foldl_cons, List.foldl_nil, List.setIfInBounds_toArray, List.set_cons_succ, List.set_cons_zero]
  gi_wp2
  exact hK
 case stop =>
  rintro D c pre V _ hsp h _
  exact absurd hsp h
 case body =>
  rintro lp pre x W6 ⟨xs6, ops6, A, m, cap, names, dn, k, hJ⟩ hlt
  have HJ := Lib.hid hJ
  have hI := hJ.1
  have c0 : W6.cell? ⟨s, 0, none⟩ = some (.pointer (some ⟨b, 0, none⟩)) := by rw [cell_of_row _ _ _ _ _ _ hI.r0]; rfl
  have hrd := pass_round HG.out hJ hlt x
  rw [Nat.zero_add] at hrd
  have HRD := Lib.hid hrd
  clear hrd
  have HI6 := Lib.hid hI
  have HML : Hid (m = pre.length ∧ pre.length < N) := Lib.hid ⟨by rw [hI.own.len]; exact hJ.2.2.1, hlt⟩
  clear hJ hI hlt
  gi_wp2_with (first
   | (gi_at_call 60; refine (CallsIn.inRound lp (callsIn_wide.2 HRD.out)).mono ?_; rintro e v5 h5; have R1 := Lib.hid (round_rows HG.out.f HI6.out h5).1; have R2 := Lib.hid (round_rows HG.out.f HI6.out h5).2.1; have HOX := Lib.hid (round_rows HG.out.f HI6.out h5).2.2.1; have HSZ5 := Lib.hid (round_rows HG.out.f HI6.out h5).2.2.2; have c2 : v5.cell? ⟨s + 2, 0, none⟩ = some (.slice A m cap) := (by rw [cell_of_row _ _ _ _ _ _ R2.out]; rfl); have c1 : v5.cell? ⟨s + 1, 0, none⟩ = some (.int .i64 0) := (by rw [cell_of_row _ _ _ _ _ _ R1.out]; rfl); have f1 : v5.frozen? ⟨s + 1, 0, none⟩ = false := row_frozen R1.out 0; rcases h5 with ⟨nm, rfl, hkx5, h1⟩ | ⟨rfl, hkx5, h1⟩ <;> have H5 := Lib.hid (And.intro hkx5 h1) <;> clear h1 hkx5)
   | (refine ⟨trivial, ?_⟩; gi_at_call 60; refine (CallsIn.inRound lp (callsIn_wide.2 HRD.out)).mono ?_; rintro e v5 h5; have R1 := Lib.hid (round_rows HG.out.f HI6.out h5).1; have R2 := Lib.hid (round_rows HG.out.f HI6.out h5).2.1; have HOX := Lib.hid (round_rows HG.out.f HI6.out h5).2.2.1; have HSZ5 := Lib.hid (round_rows HG.out.f HI6.out h5).2.2.2; have c2 : v5.cell? ⟨s + 2, 0, none⟩ = some (.slice A m cap) := (by rw [cell_of_row _ _ _ _ _ _ R2.out]; rfl); have c1 : v5.cell? ⟨s + 1, 0, none⟩ = some (.int .i64 0) := (by rw [cell_of_row _ _ _ _ _ _ R1.out]; rfl); have f1 : v5.frozen? ⟨s + 1, 0, none⟩ = false := row_frozen R1.out 0; rcases h5 with ⟨nm, rfl, hkx5, h1⟩ | ⟨rfl, hkx5, h1⟩ <;> have H5 := Lib.hid (And.intro hkx5 h1) <;> clear h1 hkx5)
   | (refine wpListIn_append_T rfl (.tmp 25) (.tmp 27) rfl (s + 5) A m cap names rfl (HOX.out.kf (KF.of_below ((Below.refl _ v5).alloc (Nat.le_refl _) _))) v5.heap.size 0 nm rfl (by simp [World.cell?_alloc_new]) (by have := HML.out; have := HG.out.hk; omega) (by have := HSZ5.out; simp; omega) ?_; intro A7 c7 w7 ho hg; have HO7 := Lib.hid ho; have HG7 := Lib.hid hg; obtain ⟨-, xs', ops', dn', k', hPI, -⟩ := H5.out; have hp7 := (hPI.put HG.out.f ho hg).2.2; have H27 := Lib.hid hp7; have c27 : w7.cell? ⟨s + 2, 0, none⟩ = some (.slice A m cap) := (by rw [cell_of_row _ _ _ _ _ _ hp7]; rfl); have f27 : w7.frozen? ⟨s + 2, 0, none⟩ = false := row_frozen hp7 0; clear ho hg hPI hp7))
  ·obtain ⟨hkx, xs', ops', dn', k', hPI, hPS, hop, hgd⟩ := H5.out
   obtain ⟨hI', ⟨hsz, hnc⟩, -⟩ := hPI.put HG.out.f HO7.out HG7.out
   have hI6 := HI6.out
   refine ⟨⟨Nat.le_trans hkx.size hsz, fun j o ho hc => ?_⟩, ⟨?_, ?_⟩, xs', ops', A7, m + 1, c7, names ++ [nm], dn', k', hI', hPS, ?_, hop, hgd⟩
   ·have hjb : j ≠ b := fun e => by subst e; rw [hI6.runs] at ho; injection ho with ho; subst ho; cases hc
    exact hnc j o (hkx.kept j o ho hjb (fun cs t fr e => by subst e; cases hc)) hc
   ·have h1 := hI'.r3; rw [cell_of_row _ _ _ _ _ _ hI6.r3]; exact cell_of_row _ _ _ _ _ _ h1
   ·have h1 := hI'.r4; rw [cell_of_row _ _ _ _ _ _ hI6.r4]; exact cell_of_row _ _ _ _ _ _ h1
   ·rw [List.length_append, List.length_append, HJ.out.2.2.1]; rfl
  ·refine ⟨⟨?_, fun j o ho hc => ?_⟩, H5.out.2⟩
   ·rw [setCell_size]; exact H5.out.1.size
   ·have hne : s + 1 ≠ j := fun e => by subst e; rw [HI6.out.r1] at ho; injection ho with ho; subst ho; cases hc
    exact row_far hne (row_kept ho H5.out.1)
 case done =>
  rintro D qs W5 hD rfl ⟨xs5, ops5, A, m, cap, names, dn, k, hI, hS, hnl, hop, hgd⟩ hKD
  have HI := Lib.hid hI
  have HDD := Lib.hid hKD
  have HDS : Hid (s + 5 ≤ D) := Lib.hid (by have := HS4.out; omega)
  obtain ⟨e1, e2, e3⟩ := hgd (by rw [chZ_len])
  rw [chZ_len] at e2 e3 hnl hop
  have hmN : m = N := by rw [hI.own.len]; exact hnl
  have hN0 : 0 < N := by have h1 := (HG.out.hn 0).1 (by have := HG.out.hpos; omega); exact h1
  obtain ⟨gq, hA, hgq, hnm, hmc, hcmx, cur, hrow⟩ := hI.own.caps (by omega)
  subst hA
  have c0 : W5.cell? ⟨s, 0, none⟩ = some (.pointer (some ⟨b, 0, none⟩)) := by rw [cell_of_row _ _ _ _ _ _ hI.r0]; rfl
  have c2 : W5.cell? ⟨s + 2, 0, none⟩ = some (.slice (some ⟨gq, 0, none⟩) m cap) := by rw [cell_of_row _ _ _ _ _ _ hI.r2]; rfl
  have cb : W5.cell? ⟨b, 2, none⟩ = some (.slice (some ⟨gn, 0, none⟩) nn cn) := by rw [cell_of_row _ _ _ _ _ _ hI.runs]; rfl
  have fb : W5.frozen? ⟨b, 2, none⟩ = false := row_frozen hI.runs 2
  have hr1 : (W5.setCell ⟨b, 2, none⟩ (.slice (some ⟨gq, 0, none⟩) m cap)).heap[s + 1]? = some (.cells #[.int .i64 0] 28 (0, 0)) := row_far (by have := HG.out.f.hb; have := HG.out.f.ws; omega) hI.r1
  have cx : (W5.setCell ⟨b, 2, none⟩ (.slice (some ⟨gq, 0, none⟩) m cap)).cell? ⟨s + 1, 0, none⟩ = some (.int .i64 0) := by rw [cell_of_row _ _ _ _ _ _ hr1]; rfl
  have fx : (W5.setCell ⟨b, 2, none⟩ (.slice (some ⟨gq, 0, none⟩) m cap)).frozen? ⟨s + 1, 0, none⟩ = false := row_frozen hr1 0
  have HSS := Lib.hid hS; have HOP := Lib.hid hop; have HE1 := Lib.hid e1; have HE2 := Lib.hid e2; have HE3 := Lib.hid e3; have HMN := Lib.hid hmN; have HGQ := Lib.hid hgq; have HNM := Lib.hid hnm; have HCP := Lib.hid (And.intro hmc hcmx); have HRW := Lib.hid hrow
  clear hI hKD hgd hD hS hnl hop e1 e2 e3 hmN hgq hnm hmc hrow hr1 HJ0 HW0
  go_wp2_with fail
  have hf := HG.out.f
  have hbw := hf.hb; have hws := hf.ws; have hds := HDS.out; have hbb := hf.bb; have hbs := hf.bs
  obtain ⟨W8, hW8⟩ : ∃ W8, W8 = (W5.setCell ⟨b, 2, none⟩ (.slice (some ⟨gq, 0, none⟩) m cap)).setCell ⟨s + 1, 0, none⟩ (.int .i64 0) := ⟨_, rfl⟩
  rw [← hW8]
  have far : ∀ (j : Nat) (o : Obj), W5.heap[j]? = some o → j ≠ b → j ≠ s + 1 → W8.heap[j]? = some o := fun j o hj h1 h2 => by
   rw [hW8]; exact row_far (Ne.symm h2) (row_far (Ne.symm h1) hj)
  have HD8 : W8.heap[D]? = some (.deferred (some [])) := far D _ HDD.out (by omega) (by omega)
  have hr1 : W8.heap[s + 1]? = some (.cells #[.int .i64 0] 28 (0, 0)) := by
   rw [hW8]; exact row_set (row_far (by omega) HI.out.r1) 0 _
  have hrb : W8.heap[b]? = some (.cells #[.pointer (some ⟨g, 0, none⟩), .int .i64 parts, .slice (some ⟨gq, 0, none⟩) m cap, .int .i64 (k : Int)] 70 (0, 0)) := by
   rw [hW8]; exact row_far (by omega) (row_set HI.out.runs 2 _)
  have put : ∀ (j : Nat) (o : Obj), W8.heap[j]? = some o → j ≠ D → (W8.putObj D (.deferred none)).heap[j]? = some o := fun j o hj hn => by
   rw [World.putObj_heap_other hn]; exact hj
  have hsa : SA ⟨W.b, W8⟩ g room false 0 ops5 xs5 W8 := by
   have h1 := HI.out.sa.setB b 2 (.slice (some ⟨gq, 0, none⟩) m cap) HI.out.runs (not_st (by decide) (by decide) (by decide)) (by show W.b.heap.size ≤ b; omega)
   have h2 := h1.setB (s + 1) 0 (.int .i64 0) (row_far (by omega) HI.out.r1) (not_st (by decide) (by decide) (by decide)) (by show W.b.heap.size ≤ s + 1; omega)
   rw [hW8]; exact h2
  try dsimp only [noPanicO, bodyPostM]
  refine ⟨by simp, .inl ⟨_, _, rfl, run_takeDeferred HD8, ?_⟩⟩
  have hmap : (chZ N).map (ixP Z nn) = List.range N := by
   unfold chZ
   conv => rhs; rw [← List.map_id (List.range N)]
   exact List.map_congr_left fun x hx => HG.out.ix_eq (by simpa using hx)
  have hrs := HSS.out.rs
  rw [hmap, rest_nil, List.append_nil, HE2.out, HE3.out] at hrs
  refine ⟨_, results_errO rfl _ _ (s + 1) (.int .i64 0) rfl (by rw [cell_of_row _ _ _ _ _ _ (put _ _ hr1 (by omega))]; rfl), rfl, xs5, ops5, gq, cap, hrs, ?_, HOP.out, ?_, ?_, by rw [← HS.out]; have := HGQ.out; omega, by rw [← HMN.out]; exact HCP.out.1, HCP.out.2, ⟨?_, fun j o hj hb hn => ?_⟩⟩
  ·have h1 := hsa.seen { W8 with heap := #[] } ⟨Nat.zero_le _, fun j o hj => by simp at hj⟩
   exact (h1.putD D _ HD8 (by show W.b.heap.size ≤ D; omega) (Nat.zero_le _)).now
  ·have h1 := put _ _ hrb (by omega)
   rw [HMN.out, HE3.out] at h1; exact h1
  ·obtain ⟨cur, t, fr, q1, q2, q3⟩ := HNM.out
   rw [HE1.out, HE2.out] at q3
   have hq := HGQ.out
   exact ⟨cur, t, fr, put _ _ (far _ _ q1 (by omega) (by omega)) (fun e => by subst e; rw [HDD.out] at q1; cases q1), q2, q3⟩
  ·have h1 := HI.out.kx.size
   have h2 : W8.heap.size = W5.heap.size := by rw [hW8, setCell_size, setCell_size]
   simp [World.putObj]; omega
  ·have hlt := (Array.getElem?_eq_some_iff.1 hj).1
   exact put _ _ (far _ _ (HI.out.kx.kept j o hj hb hn) hb (by omega)) (by omega)
end
end Go.Proofs.YtjldamkmdkaiiaaGreatDoor
namespace Go.Proofs.YtjldamkmdkaiiaaGreatDoor
open Go.RowKit Go.WideShapes Col Go.Sort Go.Shelf
attribute [local go_sem] Oper.semAt_some
theorem round_rowsZ {pz : Bool} {base w W v : World} {g : Nat} {room : Int} {b gn nn cn Z : Nat} {parts : Int} {nms names : List ByteArray} {s : Nat} {xs : List Fil} {ops : Int} {A : Option Addr} {m cap k : Nat} {e : Ending} {P : ByteArray → Prop} {R : Int → Prop} (hf : PassF base w b gn s) (hI : PassIZ base g room pz b parts gn nn cn Z nms w s W xs ops A m cap names k)
  (h : (∃ nm, e = .returned (.tuple #[.string nm, .int .i64 0]) ∧ KX b W v ∧ P nm) ∨ (∃ (t : ByteArray) (y : Int), y ≠ 0 ∧ e = .returned (.tuple #[.string t, .int .i64 y]) ∧ KX b W v ∧ R y)) :
  v.heap[s + 1]? = some (.cells #[.int .i64 0] 28 (0, 0)) ∧ v.heap[s + 2]? = some (.cells #[.slice A m cap] 37 (0, 0)) ∧ OwnT v (s + 5) A m cap names ∧ s + 5 ≤ v.heap.size := by
 have hk : KX b W v := by
  rcases h with ⟨nm, -, h, -⟩ | ⟨t, y, -, -, h, -⟩
  ·exact h
  ·exact h
 have h1 := hf.hb; have h2 := hf.ws
 exact ⟨hk.row (by omega) hI.r1 (not_st (by decide) (by decide) (by decide)), hk.row (by omega) hI.r2 (not_st (by decide) (by decide) (by decide)), hI.own.kx hk (by omega), Nat.le_trans hI.size hk.size⟩
def PassX (F : Prop) (base : World) (g : Nat) (room : Int) (pz : Bool) (b : Nat) (w : World) (s : Nat) (pre : List Nat) (V : World) : Prop :=
 ∃ y : Int, V.heap[s + 1]? = some (.cells #[.int .i64 y] 28 (0, 0)) ∧ KX b w V ∧ (pre ≠ chZ pre.length ∨ Bad base g room pz F y V) ∧ s + 5 ≤ V.heap.size
theorem PassX.grown {F : Prop} {base : World} {g : Nat} {room : Int} {pz : Bool} {b gn : Nat} {w : World} {s : Nat} {pre : List Nat} {V V' : World} (h : PassX F base g room pz b w s pre V) (hf : PassF base w b gn s) {row : Option Nat} (hg : V.grownBy V' row) (hr : ∀ r, row = some r → s + 5 ≤ r ∧ ∃ o : Obj, V.heap[r]? = some o ∧ o.isCells = false) : PassX F base g room pz b w s pre V' := by
 obtain ⟨y, h1, h2, h3, h4⟩ := h
 have hws := hf.ws; have hbs := hf.bs
 refine ⟨y, (hg.block (s + 1) (Array.getElem?_eq_some_iff.1 h1).1 (fun e => by have := (hr _ e.symm).1; omega)).trans h1, ⟨Nat.le_trans h2.size hg.size, fun k o hk hb hn => ?_⟩, h3.imp id (fun h => h.grownN hg (fun r e => ⟨by have := (hr r e).1; omega, (hr r e).2⟩)), Nat.le_trans h4 hg.size⟩
 have h5 := h2.kept k o hk hb hn
 have hlt := (Array.getElem?_eq_some_iff.1 hk).1
 exact (hg.block k (Array.getElem?_eq_some_iff.1 h5).1 (fun e => by have := (hr k e.symm).1; omega)).trans h5
section
variable {F : Prop} {pz : Bool} {TT : Nat} {dgs : Nat → ByteArray} {W : Bs} {w : World} {g : Nat} {room : Int} {b gn nn cn nb bb Z : Nat} {parts : Int} {ps : List (Nat × List Ev)} {N k0 : Nat} {ops0 : Int} {xs : List Fil}
set_option maxHeartbeats 8000000 in
theorem passZ_any (hG : PassGZ F TT dgs W.b w g room b gn nn nb bb Z ps N k0 ops0 w.heap.size) (HRS : RS TT dgs parts nb bb xs ps k0) (hs : SZ W g room pz ops0 xs w) (hNm : Nms xs) (hsm : (sumN xs : Int) ≤ room) (HR : RunsAt9 w b g parts (some ⟨gn, 0, none⟩) nn cn k0) (HN : NmAt w gn 0 (nmP dgs ps)) (hncn : nn ≤ cn) (hcm : cn ≤ maxLen) :
  Calls Tryz.prog 46 #[.pointer (some ⟨b, 0, none⟩), .int .i64 (Z : Int)] w fun e w' => (e = .returned (.int .i64 0) ∧ ∃ xs' ops' gn' cap', RS TT dgs parts nb bb xs' (pst Z ps k0 N).1 (pst Z ps k0 N).2 ∧ SZ ⟨W.b, w'⟩ g room pz ops' xs' w' ∧ Nms xs' ∧ (sumN xs' : Int) ≤ room ∧ (0 ≤ ops' ∧ ops' ≤ ops0 + 20 * N) ∧ RunsAt9 w' b g parts (some ⟨gn', 0, none⟩) N cap' (pst Z ps k0 N).2 ∧ NmAt w' gn' 0 (nmP dgs (pst Z ps k0 N).1) ∧ w.heap.size ≤ gn' ∧ N ≤ cap' ∧ cap' ≤ maxLen ∧ KX b w w') ∨ (∃ x : Int, e = .returned (.int .i64 x) ∧ KX b w w' ∧ Bad W.b g room pz F x w') := by
 have HNm := Lib.hid (And.intro hNm hsm)
 clear hNm hsm
 have hch := chunkF_anyT Z (by have := hG.hz; omega) (some ⟨gn, 0, none⟩) nn cn
 have HCH := Lib.hid hch
 clear hch
 obtain ⟨s, hss⟩ : ∃ s, s = w.heap.size := ⟨_, rfl⟩
 have HG := Lib.hid hG
 have HS := Lib.hid hss
 have hrb : ∀ w', Below w.heap.size w w' → w'.cell? ⟨b, 2, none⟩ = some (.slice (some ⟨gn, 0, none⟩) nn cn) := fun w' hb => by
  rw [cell_of_row _ _ _ _ _ _ (HR.keep hb)]; rfl
 have hbl : b < w.heap.size := hG.f.hb
 have c2 : ∀ (o1 o2 o3 : Obj), (((w.alloc o1).alloc o2).alloc o3).cell? ⟨b, 2, none⟩ = some (.slice (some ⟨gn, 0, none⟩) nn cn) := fun o1 o2 o3 => hrb _ ((((Below.refl _ _).alloc (Nat.le_refl _) _).alloc (by simp) _).alloc (by simp; omega) _)
 have HRS' := Lib.hid HRS; have Hs := Lib.hid hs; have HR' := Lib.hid HR; have HN' := Lib.hid HN
 clear HRS hs HR HN hG hrb
 refine (callsIn_wide (n := 5)).1 ?_
 refine callsIn_of_wp_marks Tryz.func46 rfl trivial ?_ rfl
 refine wpIn_wide.2 (wp_mono ?_ (noPanicO_imp _))
 simp only [Tryz.ntmps46, List.size_toArray, List.length_cons, List.length_nil, Nat.reduceAdd, Nat.reduceSub, Array.replicate_succ, Array.replicate_zero, List.push_toArray, List.append_toArray, List.nil_append, List.cons_append]
 have c2' := c2 (.cells #[.pointer (some ⟨b, 0, none⟩)] 68) (.cells #[.int .i64 0] 28) (.cells #[.slice none 0 0] 37)
 go_wp2_with (go_at_call 59; (with_reducible refine (HCH.out _).mono ?_); rintro e w2 ⟨rfl, rfl⟩)
 have H0 := pw_new w b gn nn cn Z
 generalize ((((w.alloc (.cells #[.pointer (some ⟨b, 0, none⟩)] 68)).alloc (.cells #[.int .i64 0] 28)).alloc (.cells #[.slice none 0 0] 37)).alloc (.cells #[.slice (some ⟨gn, 0, none⟩) nn cn] 37)).alloc (.cells #[.int .i64 (Z : Int)] 3) = W4 at *
 rw [← HS.out] at H0 HG ⊢
 have HW0 := Lib.hid H0
 have HS4 := Lib.hid H0.size
 have c3 : W4.cell? ⟨s + 3, 0, none⟩ = some (.slice (some ⟨gn, 0, none⟩) nn cn) := by rw [cell_of_row _ _ _ _ _ _ H0.r3]; rfl
 have c4 : W4.cell? ⟨s + 4, 0, none⟩ = some (.int .i64 (Z : Int)) := by rw [cell_of_row _ _ _ _ _ _ H0.r4]; rfl
 have HC3 := Lib.hid c3; have HC4 := Lib.hid c4
 have hb4 : Below w.heap.size w W4 := by have := H0.below; rwa [HS.out] at this
 have HJ0 : Hid (PassJZ TT W.b g room pz dgs b parts gn nn cn nb bb Z ps N k0 ops0 w s [] W4 xs ops0 none 0 0 [] [] k0) := Lib.hid ⟨⟨H0.r0, H0.r1, H0.r2, H0.r3, H0.r4, World.ownsRow_nil _ _ _ 1, (Hs.out.next hb4).now, HR'.out.keep hb4, HN'.out.kf (KF.of_below hb4), by rw [H0.size]; exact Nat.le_refl _, KX.of_kf (KF.of_below hb4)⟩,
  PassS.start HRS'.out (by have h1 := HG.out.hn N; have := HG.out.hnn; omega), ⟨rfl, HNm.out⟩, ⟨HG.out.hops.1, by simp⟩, fun _ => ⟨rfl, rfl, rfl⟩⟩
 clear hss H0 c2 c2' hbl HCH c3 c4 hb4
 refine wpIn_wide (n := 5).1 ?_
 refine wpIn_rangeFunc_ownF rfl (by decide) (gf := 72) (lb := #[.pointer (some ⟨s + 3, 0, none⟩), .pointer (some ⟨s + 4, 0, none⟩)]) rfl trivial (enters_of Tryz.func72 (by kernel_rfl) rfl)
  (chunk_stopsT (5 - 1) (by decide) Z (by have := HG.out.hz; omega) (by have := HG.out.hz; omega) (s + 3) (s + 4) gn 0 nn cn N HG.out.hn (by have := HG.out.hnn; have := HRS'.out.count; omega) hncn hcm W4 (by have := HS4.out; omega) (by have := HS4.out; omega) HC3.out HC4.out) KpZ.trans (fun W l o o' hl _ _ _ => KpZ.putObj W l o' (by have := HS4.out; omega) (by have := HS4.out; omega)) (Below.refl _ _) (fun _ => rfl)
  (fun pre V => ∃ xs ops A m cap names dn k, PassJZ TT W.b g room pz dgs b parts gn nn cn nb bb Z ps N k0 ops0 w s pre V xs ops A m cap names dn k) (fun c pre V => c = .ret ∧ PassX F W.b g room pz b w s pre V)
  (fun pre A B row h hg hr => by
   obtain ⟨xs, ops, A1, m, cap, names, dn, k, h1, h2⟩ := h
   exact ⟨xs, ops, A1, m, cap, names, dn, k, h1.grown HG.out.f hg (fun r e => ⟨by have := (hr r e).1; have := HS4.out; omega, (hr r e).2⟩), h2⟩)
  (fun c pre A B row h hg hr => ⟨h.1, h.2.grown HG.out.f hg (fun r e => ⟨by have := (hr r e).1; have := HS4.out; omega, (hr r e).2⟩)⟩)
  ⟨xs, ops0, none, 0, 0, [], [], k0, HJ0.out⟩
  ?a1 ?assign ?body ?done ?stop
 case assign =>
  intro l x W K hK
  unfold encZT
  try simp only [List.zip_toArray, List.zip_cons_cons, List.zip_nil_right, List.zip_nil_left, List.foldl_toArray, List.foldl_cons, List.foldl_nil, List.setIfInBounds_toArray, List.set_cons_succ, List.set_cons_zero]
  gi_wp2
  exact hK
 case stop =>
  rintro D c pre V hD hsp ⟨rfl, y, hrow, hkx, hbd, hsz⟩ hKD
  have hb : Bad W.b g room pz F y V := hbd.resolve_left (fun h => h hsp)
  have hf := HG.out.f
  have hbw := hf.hb; have hws := hf.ws; have hbs := hf.bs
  have hDs : s + 5 ≤ D := by have := HS4.out; omega
  have HX := Lib.hid (And.intro hkx hb); have HRW := Lib.hid hrow; have HKD := Lib.hid hKD; have HDS := Lib.hid hDs; have HF := Lib.hid (And.intro hws hbs)
  clear hrow hkx hbd hb hKD hDs hf hsz hsp hbw hws hbs hD
  refine wpIn_ret ?_
  try dsimp only [Exit.then, Exit.inBlock, noPanicO, bodyPostM]
  refine ⟨by simp, .inl ⟨_, _, rfl, run_takeDeferred HKD.out, ?_⟩⟩
  have hDs := HDS.out; have hws := HF.out.1; have hbs := HF.out.2
  refine ⟨_, results_errO rfl _ _ (s + 1) (.int .i64 y) rfl (by rw [cell_of_row _ _ _ _ _ _ (show (V.putObj D (.deferred none)).heap[s + 1]? = some _ by rw [World.putObj_heap_other (by omega)]; exact HRW.out)]; rfl), .inr ⟨y, rfl, ⟨?_, fun j o hj hb hn => ?_⟩, HX.out.2.putD D _ HKD.out (by omega)⟩⟩
  ·have h1 := HX.out.1.size
   simp [World.putObj]; omega
  ·have hlt := (Array.getElem?_eq_some_iff.1 hj).1
   rw [World.putObj_heap_other (by omega)]
   exact HX.out.1.kept j o hj hb hn
 case body =>
  rintro lp pre x W6 ⟨xs6, ops6, A, m, cap, names, dn, k, hJ⟩ hlt
  have HJ := Lib.hid hJ
  have hI := hJ.1
  have c0 : W6.cell? ⟨s, 0, none⟩ = some (.pointer (some ⟨b, 0, none⟩)) := by rw [cell_of_row _ _ _ _ _ _ hI.r0]; rfl
  have hrd := pass_roundZ HG.out hJ hlt x
  rw [Nat.zero_add] at hrd
  have HRD := Lib.hid hrd
  clear hrd
  have HI6 := Lib.hid hI
  have HML : Hid (m = pre.length ∧ pre.length < N) := Lib.hid ⟨by rw [hI.own.len]; exact hJ.2.2.1.1, hlt⟩
  clear hJ hI hlt
  gi_wp2_with (first
   | (gi_at_call 60; refine (CallsIn.inRound lp (callsIn_wide.2 HRD.out)).mono ?_; rintro e v5 h5; have R1 := Lib.hid (round_rowsZ HG.out.f HI6.out h5).1; have R2 := Lib.hid (round_rowsZ HG.out.f HI6.out h5).2.1; have HOX := Lib.hid (round_rowsZ HG.out.f HI6.out h5).2.2.1; have HSZ5 := Lib.hid (round_rowsZ HG.out.f HI6.out h5).2.2.2; have c2 : v5.cell? ⟨s + 2, 0, none⟩ = some (.slice A m cap) := (by rw [cell_of_row _ _ _ _ _ _ R2.out]; rfl); have c1 : v5.cell? ⟨s + 1, 0, none⟩ = some (.int .i64 0) := (by rw [cell_of_row _ _ _ _ _ _ R1.out]; rfl); have f1 : v5.frozen? ⟨s + 1, 0, none⟩ = false := row_frozen R1.out 0; rcases h5 with ⟨nm, rfl, hkx5, h1⟩ | ⟨t5, y5, hy5, rfl, hkx5, h1⟩ <;> have H5 := Lib.hid (And.intro hkx5 h1) <;> clear h1 hkx5)
   | (refine ⟨trivial, ?_⟩; gi_at_call 60; refine (CallsIn.inRound lp (callsIn_wide.2 HRD.out)).mono ?_; rintro e v5 h5; have R1 := Lib.hid (round_rowsZ HG.out.f HI6.out h5).1; have R2 := Lib.hid (round_rowsZ HG.out.f HI6.out h5).2.1; have HOX := Lib.hid (round_rowsZ HG.out.f HI6.out h5).2.2.1; have HSZ5 := Lib.hid (round_rowsZ HG.out.f HI6.out h5).2.2.2; have c2 : v5.cell? ⟨s + 2, 0, none⟩ = some (.slice A m cap) := (by rw [cell_of_row _ _ _ _ _ _ R2.out]; rfl); have c1 : v5.cell? ⟨s + 1, 0, none⟩ = some (.int .i64 0) := (by rw [cell_of_row _ _ _ _ _ _ R1.out]; rfl); have f1 : v5.frozen? ⟨s + 1, 0, none⟩ = false := row_frozen R1.out 0; rcases h5 with ⟨nm, rfl, hkx5, h1⟩ | ⟨t5, y5, hy5, rfl, hkx5, h1⟩ <;> have H5 := Lib.hid (And.intro hkx5 h1) <;> clear h1 hkx5)
   | (refine wpListIn_append_T rfl (.tmp 25) (.tmp 27) rfl (s + 5) A m cap names rfl (HOX.out.kf (KF.of_below ((Below.refl _ v5).alloc (Nat.le_refl _) _))) v5.heap.size 0 nm rfl (by simp [World.cell?_alloc_new]) (by have := HML.out; have := HG.out.hk; omega) (by have := HSZ5.out; simp; omega) ?_; intro A7 c7 w7 ho hg; have HO7 := Lib.hid ho; have HG7 := Lib.hid hg; obtain ⟨-, xs', ops', dn', k', -, hPI, -⟩ := H5.out; have hp7 := (hPI.put HG.out.f ho hg).2.2; have H27 := Lib.hid hp7; have c27 : w7.cell? ⟨s + 2, 0, none⟩ = some (.slice A m cap) := (by rw [cell_of_row _ _ _ _ _ _ hp7]; rfl); have f27 : w7.frozen? ⟨s + 2, 0, none⟩ = false := row_frozen hp7 0; clear ho hg hPI hp7))
  ·obtain ⟨hkx, xs', ops', dn', k', hns, hPI, hPS, hop, hgd⟩ := H5.out
   obtain ⟨hI', ⟨hsz, hnc⟩, -⟩ := hPI.put HG.out.f HO7.out HG7.out
   have hI6 := HI6.out
   refine ⟨⟨Nat.le_trans hkx.size hsz, fun j o ho hc => ?_⟩, ⟨?_, ?_⟩, xs', ops', A7, m + 1, c7, names ++ [nm], dn', k', hI', hPS, ⟨?_, hns⟩, hop, hgd⟩
   ·have hjb : j ≠ b := fun e => by subst e; rw [hI6.runs] at ho; injection ho with ho; subst ho; cases hc
    exact hnc j o (hkx.kept j o ho hjb (fun cs t fr e => by subst e; cases hc)) hc
   ·have h1 := hI'.r3; rw [cell_of_row _ _ _ _ _ _ hI6.r3]; exact cell_of_row _ _ _ _ _ _ h1
   ·have h1 := hI'.r4; rw [cell_of_row _ _ _ _ _ _ hI6.r4]; exact cell_of_row _ _ _ _ _ _ h1
   ·rw [List.length_append, List.length_append, HJ.out.2.2.1.1]; rfl
  ·have hjb : ∀ (j : Nat) (o : Obj), W6.heap[j]? = some o → o.isCells = false → j ≠ b := fun j o ho hc e => by subst e; rw [HI6.out.runs] at ho; injection ho with ho; subst ho; cases hc
   have hf := HG.out.f
   have hbb := hf.hb; have hws := hf.ws; have hbs := hf.bs
   refine ⟨⟨?_, fun j o ho hc => ?_⟩, rfl, y5, row_set R1.out 0 _, ?_, ?_, by rw [setCell_size]; exact HSZ5.out⟩
   ·rw [setCell_size]; exact H5.out.1.size
   ·have hne : s + 1 ≠ j := fun e => by subst e; rw [HI6.out.r1] at ho; injection ho with ho; subst ho; cases hc
    exact row_far hne (H5.out.1.kept j o ho (hjb j o ho hc) (fun cs t fr e => by subst e; cases hc))
   ·have h1 := HI6.out.kx.trans H5.out.1
    exact ⟨by rw [setCell_size]; exact h1.size, fun j o ho hb hn => row_far (by have := (Array.getElem?_eq_some_iff.1 ho).1; omega) (h1.kept j o ho hb hn)⟩
   ·exact H5.out.2.imp id (fun h => h.setB (s + 1) 0 _ R1.out (not_st (by decide) (by decide) (by decide)) (by omega))
 case done =>
  rintro D qs W5 hD rfl ⟨xs5, ops5, A, m, cap, names, dn, k, hI, hS, ⟨hnl, hns⟩, hop, hgd⟩ hKD
  have HI := Lib.hid hI
  have HDD := Lib.hid hKD
  have HDS : Hid (s + 5 ≤ D) := Lib.hid (by have := HS4.out; omega)
  obtain ⟨e1, e2, e3⟩ := hgd (by rw [chZ_len])
  rw [chZ_len] at e2 e3 hnl hop
  have hmN : m = N := by rw [hI.own.len]; exact hnl
  have hN0 : 0 < N := by have h1 := (HG.out.hn 0).1 (by have := HG.out.hpos; omega); exact h1
  obtain ⟨gq, hA, hgq, hnm, hmc, hcmx, cur, hrow⟩ := hI.own.caps (by omega)
  subst hA
  have c0 : W5.cell? ⟨s, 0, none⟩ = some (.pointer (some ⟨b, 0, none⟩)) := by rw [cell_of_row _ _ _ _ _ _ hI.r0]; rfl
  have c2 : W5.cell? ⟨s + 2, 0, none⟩ = some (.slice (some ⟨gq, 0, none⟩) m cap) := by rw [cell_of_row _ _ _ _ _ _ hI.r2]; rfl
  have cb : W5.cell? ⟨b, 2, none⟩ = some (.slice (some ⟨gn, 0, none⟩) nn cn) := by rw [cell_of_row _ _ _ _ _ _ hI.runs]; rfl
  have fb : W5.frozen? ⟨b, 2, none⟩ = false := row_frozen hI.runs 2
  have hr1 : (W5.setCell ⟨b, 2, none⟩ (.slice (some ⟨gq, 0, none⟩) m cap)).heap[s + 1]? = some (.cells #[.int .i64 0] 28 (0, 0)) := row_far (by have := HG.out.f.hb; have := HG.out.f.ws; omega) hI.r1
  have cx : (W5.setCell ⟨b, 2, none⟩ (.slice (some ⟨gq, 0, none⟩) m cap)).cell? ⟨s + 1, 0, none⟩ = some (.int .i64 0) := by rw [cell_of_row _ _ _ _ _ _ hr1]; rfl
  have fx : (W5.setCell ⟨b, 2, none⟩ (.slice (some ⟨gq, 0, none⟩) m cap)).frozen? ⟨s + 1, 0, none⟩ = false := row_frozen hr1 0
  have HSS := Lib.hid hS; have HOP := Lib.hid hop; have HE1 := Lib.hid e1; have HE2 := Lib.hid e2; have HE3 := Lib.hid e3; have HMN := Lib.hid hmN; have HGQ := Lib.hid hgq; have HNM := Lib.hid hnm; have HCP := Lib.hid (And.intro hmc hcmx); have HRW := Lib.hid hrow
  clear hI hKD hgd hD hS hnl hop e1 e2 e3 hmN hgq hnm hmc hrow hr1 HJ0 HW0
  go_wp2_with fail
  have hf := HG.out.f
  have hbw := hf.hb; have hws := hf.ws; have hds := HDS.out; have hbb := hf.bb; have hbs := hf.bs
  obtain ⟨W8, hW8⟩ : ∃ W8, W8 = (W5.setCell ⟨b, 2, none⟩ (.slice (some ⟨gq, 0, none⟩) m cap)).setCell ⟨s + 1, 0, none⟩ (.int .i64 0) := ⟨_, rfl⟩
  rw [← hW8]
  have far : ∀ (j : Nat) (o : Obj), W5.heap[j]? = some o → j ≠ b → j ≠ s + 1 → W8.heap[j]? = some o := fun j o hj h1 h2 => by
   rw [hW8]; exact row_far (Ne.symm h2) (row_far (Ne.symm h1) hj)
  have HD8 : W8.heap[D]? = some (.deferred (some [])) := far D _ HDD.out (by omega) (by omega)
  have hr1 : W8.heap[s + 1]? = some (.cells #[.int .i64 0] 28 (0, 0)) := by
   rw [hW8]; exact row_set (row_far (by omega) HI.out.r1) 0 _
  have hrb : W8.heap[b]? = some (.cells #[.pointer (some ⟨g, 0, none⟩), .int .i64 parts, .slice (some ⟨gq, 0, none⟩) m cap, .int .i64 (k : Int)] 70 (0, 0)) := by
   rw [hW8]; exact row_far (by omega) (row_set HI.out.runs 2 _)
  have put : ∀ (j : Nat) (o : Obj), W8.heap[j]? = some o → j ≠ D → (W8.putObj D (.deferred none)).heap[j]? = some o := fun j o hj hn => by
   rw [World.putObj_heap_other hn]; exact hj
  have hsa : SZ ⟨W.b, W8⟩ g room pz ops5 xs5 W8 := by
   have h1 := HI.out.sa.setB b 2 (.slice (some ⟨gq, 0, none⟩) m cap) HI.out.runs (not_st (by decide) (by decide) (by decide)) (by show W.b.heap.size ≤ b; omega)
   have h2 := h1.setB (s + 1) 0 (.int .i64 0) (row_far (by omega) HI.out.r1) (not_st (by decide) (by decide) (by decide)) (by show W.b.heap.size ≤ s + 1; omega)
   rw [hW8]; exact h2
  try dsimp only [noPanicO, bodyPostM]
  refine ⟨by simp, .inl ⟨_, _, rfl, run_takeDeferred HD8, ?_⟩⟩
  have hmap : (chZ N).map (ixP Z nn) = List.range N := by
   unfold chZ
   conv => rhs; rw [← List.map_id (List.range N)]
   exact List.map_congr_left fun x hx => HG.out.ix_eq (by simpa using hx)
  have hrs := HSS.out.rs
  rw [hmap, rest_nil, List.append_nil, HE2.out, HE3.out] at hrs
  refine ⟨_, results_errO rfl _ _ (s + 1) (.int .i64 0) rfl (by rw [cell_of_row _ _ _ _ _ _ (put _ _ hr1 (by omega))]; rfl), .inl ⟨rfl, xs5, ops5, gq, cap, hrs, ?_, hns.1, hns.2, HOP.out, ?_, ?_, by rw [← HS.out]; have := HGQ.out; omega, by rw [← HMN.out]; exact HCP.out.1, HCP.out.2, ⟨?_, fun j o hj hb hn => ?_⟩⟩⟩
  ·exact hsa.putD D _ HD8 (by show W.b.heap.size ≤ D; omega)
  ·have h1 := put _ _ hrb (by omega)
   rw [HMN.out, HE3.out] at h1; exact h1
  ·obtain ⟨cur, t, fr, q1, q2, q3⟩ := HNM.out
   rw [HE1.out, HE2.out] at q3
   have hq := HGQ.out
   exact ⟨cur, t, fr, put _ _ (far _ _ q1 (by omega) (by omega)) (fun e => by subst e; rw [HDD.out] at q1; cases q1), q2, q3⟩
  ·have h1 := HI.out.kx.size
   have h2 : W8.heap.size = W5.heap.size := by rw [hW8, setCell_size, setCell_size]
   simp [World.putObj]; omega
  ·have hlt := (Array.getElem?_eq_some_iff.1 hj).1
   exact put _ _ (far _ _ (HI.out.kx.kept j o hj hb hn) hb (by omega)) (by omega)
end
end Go.Proofs.YtjldamkmdkaiiaaGreatDoor
