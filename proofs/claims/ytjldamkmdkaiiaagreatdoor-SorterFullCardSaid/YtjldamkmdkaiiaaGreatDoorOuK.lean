/-
  Layer sorter: the first runs (plain).
-/
import Derived.Test.YtjldamkmdkaiiaaGreatDoorOsqK
set_option linter.unusedSimpArgs false
set_option linter.unusedVariables false
set_option maxRecDepth 8000
namespace Go.Proofs.YtjldamkmdkaiiaaGreatDoor
open Go.RowKit Go.WideShapes Col Go.Sort
def ckN (Z n : Nat) : Nat := (n + Z - 1) / Z
theorem ckN_iff {Z n : Nat} (hZ : 2 ≤ Z) (k : Nat) : Z * k < n ↔ k < ckN Z n := by
 unfold ckN
 rw [Nat.lt_div_iff_mul_lt (by omega), Nat.mul_comm]
 omega
theorem ckN_half {Z n : Nat} (hZ : 2 ≤ Z) : 2 * ckN Z n ≤ n + 1 := by
 have h := ckN_iff (n := n) hZ (ckN Z n - 1)
 by_cases h0 : ckN Z n = 0
 ·omega
 ·have h1 := h.2 (by omega)
  have h2 : 2 * (ckN Z n - 1) ≤ Z * (ckN Z n - 1) := Nat.mul_le_mul_right _ hZ
  omega
theorem ckN_pos {Z n : Nat} (hZ : 2 ≤ Z) (h : 0 < n) : 0 < ckN Z n := (ckN_iff hZ 0).1 (by simpa using h)
def itP (Z : Nat) (ps : List (Nat × List Ev)) (k : Nat) : Nat → List (Nat × List Ev) × Nat
 | 0 => (ps, k)
 | j + 1 => pst Z (itP Z ps k j).1 (itP Z ps k j).2 (ckN Z (itP Z ps k j).1.length)
section
variable {TT : Nat} {dgs : Nat → ByteArray} {W : Bs} {w : World} {g : Nat} {room : Int} {b nb bb Z : Nat} {parts : Int}
structure SortI (TT : Nat) (dgs : Nat → ByteArray) (base w : World) (g : Nat) (room : Int) (b : Nat) (parts : Int) (nb bb : Nat) (n0 K0 : Nat) (ops0 : Int) (j : Nat) (wr : World) (ps : List (Nat × List Ev)) (k : Nat) (xs : List Fil) (ops : Int) (gn cap : Nat) : Prop where
 rs : RS TT dgs parts nb bb xs ps k
 sa : SA ⟨base, wr⟩ g room false 0 ops xs wr
 hrow : RunsAt9 wr b g parts (some ⟨gn, 0, none⟩) ps.length cap k
 nm : NmAt wr gn 0 (nmP dgs ps)
 hne : gn ≠ b
 hcap : ps.length ≤ cap ∧ cap ≤ maxLen
 kx : KX b w wr
 hnum : 0 < ps.length ∧ k + 2 * ps.length ≤ K0 ∧ j + ps.length ≤ n0
 hops : 0 ≤ ops ∧ ops ≤ ops0 + 6000 * j
structure SortG (TT : Nat) (dgs : Nat → ByteArray) (base w : World) (g : Nat) (room : Int) (b nb bb Z n0 K0 : Nat) (ops0 : Int) : Prop where
 nmr : Namer dgs
 hz : 2 ≤ Z ∧ Z ≤ 16
 hg : TabsAt base
 hgg : base.heap.size ≤ g
 hbb : base.heap.size ≤ b
 hbl : b < w.heap.size
 hnb : nb < 100
 hroom : room ≤ 16777216
 hfit : ((bb + 700 * TT : Nat) : Int) ≤ room
 hn0 : n0 ≤ 320
 hK0 : K0 < 998
 hops : 0 ≤ ops0 ∧ ops0 < 700000000
theorem SortI.pass {n0 K0 : Nat} {ops0 : Int} {j : Nat} {wr : World} {ps : List (Nat × List Ev)} {k : Nat} {xs : List Fil} {ops : Int} {gn cap : Nat} (hG : SortG TT dgs W.b w g room b nb bb Z n0 K0 ops0) (h : SortI TT dgs W.b w g room b parts nb bb n0 K0 ops0 j wr ps k xs ops gn cap) (h2 : 2 ≤ ps.length) :
  Calls Tryz.prog 46 #[.pointer (some ⟨b, 0, none⟩), .int .i64 (Z : Int)] wr fun e w' => e = .returned (.int .i64 0) ∧ ∃ xs' ops' gn' cap', SortI TT dgs W.b w g room b parts nb bb n0 K0 ops0 (j + 1) w' (pst Z ps k (ckN Z ps.length)).1 (pst Z ps k (ckN Z ps.length)).2 xs' ops' gn' cap' := by
 have hz := hG.hz
 have hhalf := ckN_half (n := ps.length) hz.1
 have hpos := ckN_pos (n := ps.length) hz.1 (by omega)
 have hnum := h.hnum
 have hops := h.hops
 have hGo := hG.hops
 have hcnt := h.rs.count
 have hn0 := hG.hn0
 have hK0 := hG.hK0
 obtain ⟨cur, t, fr, q1, q2, q3⟩ := h.nm
 have hgl : gn < wr.heap.size := (Array.getElem?_eq_some_iff.1 q1).1
 have hPG : PassG TT dgs W.b wr g room b gn ps.length nb bb Z ps (ckN Z ps.length) k ops wr.heap.size := ⟨hG.nmr, ⟨h.sa.below.gb.size, Nat.le_refl _, hG.hbb, Nat.lt_of_lt_of_le hG.hbl h.kx.size, h.hne, hgl⟩, rfl, by omega, hz, ckN_iff hz.1, h.rs.lt, by omega, ⟨hops.1, by omega⟩, hG.hg, hG.hgg, hG.hnb, hG.hroom, hG.hfit⟩
 refine (pass_any (W := ⟨W.b, wr⟩) hPG h.rs h.sa h.hrow ⟨cur, t, fr, q1, q2, q3⟩ h.hcap.1 h.hcap.2).mono ?_
 rintro e w' ⟨rfl, xs', ops', gn', cap', hrs, hsa, hop, hrow, hnm, hgn, hc1, hc2, hkx⟩
 have hle := pst_le Z ps k (ckN Z ps.length)
 have hln := pst_len Z ps k (ckN Z ps.length)
 have hbl := hG.hbl
 have hkxs := h.kx.size
 exact ⟨rfl, xs', ops', gn', cap', hrs, hsa, by rw [hln]; exact hrow, hnm, by omega, by rw [hln]; exact ⟨hc1, hc2⟩, h.kx.trans hkx, by rw [hln]; omega, by constructor; exact hop.1; omega⟩
end
theorem results_tmp4O {fn : Func} {t u v x : Tmp} (h : fn.results = #[.tmp t, .tmp u, .tmp v, .tmp x]) (tmps : Array Value) (P : Program) (w : World) :
  (results fn tmps).run P w = .ok (.tuple #[tmps.getD t undef, tmps.getD u undef, tmps.getD v undef, tmps.getD x undef]) w := by simp [results, h]
section
variable {TT : Nat} {dgs : Nat → ByteArray} {W : Bs} {w : World} {g : Nat} {room : Int} {b nb bb Z : Nat} {parts : Int}
theorem SortG.more {w' : World} {n0 K0 : Nat} {ops0 : Int} (h : SortG TT dgs W.b w g room b nb bb Z n0 K0 ops0) (hs : w.heap.size ≤ w'.heap.size) : SortG TT dgs W.b w' g room b nb bb Z n0 K0 ops0 :=
 ⟨h.nmr, h.hz, h.hg, h.hgg, h.hbb, Nat.lt_of_lt_of_le h.hbl hs, h.hnb, h.hroom, h.hfit, h.hn0, h.hK0, h.hops⟩
end
def planB (hold fan : Int) : Bool := decide (1 ≤ hold) && decide (hold ≤ 4096) && decide (2 ≤ fan) && decide (fan ≤ 16)
set_option maxHeartbeats 4000000 in
theorem planForm_any (hold fan : Int) (w : World) : Calls Tryz.prog 21 #[.agg #[.int .i64 hold, .int .i64 fan]] w fun e w' => e = .returned (.bool (planB hold fan)) ∧ Below w.heap.size w w' := by
 obtain ⟨r, hr⟩ : ∃ r, r = planB hold fan := ⟨_, rfl⟩
 have HR := Lib.hid hr
 rw [← hr]
 clear hr
 go_enter Tryz.func21, Tryz.ntmps21
 go_wp2
 all_goals
  go_ret
  refine ⟨?_, (Below.refl _ _).alloc (Nat.le_refl _) _⟩
  rw [HR.out]; unfold planB
  simp_all <;> omega
section
variable {W : Bs} {g : Nat} {room armed ops : Int}
set_option maxHeartbeats 4000000 in
theorem clean_none (w : World) (hs : SA W g room false armed ops [] w) :
  Calls Tryz.prog 23 #[.pointer (some ⟨g, 0, none⟩)] w fun e w' => e = .returned (.int .i64 0) ∧ Below w.heap.size w w' := by
 have HL := Lib.hid (list_A (by simp) w (Lib.hid hs))
 go_enter Tryz.func23, Tryz.ntmps23
 go_wp2_with (go_at_call 17; (with_reducible refine HL.out.mono ?_); rintro e w2 ⟨b2, rfl, h1, -, h2⟩; have HB2 := Lib.hid h2; clear h1 h2)
 refine wp_loop_rounds 1 ?_
 rw [rounds_succ]
 go_wp2
 go_ret
 exact ⟨rfl, HB2.out⟩
set_option maxHeartbeats 4000000 in
theorem refuses_fine (a : Option Addr) (n c : Nat) (l : List Ev) (hn : Hid (n = l.length)) (hn9 : n ≤ 1100) (parts hold fan : Int) (hp : Hid (1 ≤ parts ∧ parts ≤ 8)) (hpl : planB hold fan = true) (hall : Hid (∀ x ∈ l, formB x parts = true)) (W : World) (HE : Hid (EvAt W a l)) :
  Calls Tryz.prog 29 #[.slice a n c, .int .i64 parts, .agg #[.int .i64 hold, .int .i64 fan]] W fun e w' => e = .returned (.int .i64 0) ∧ Below W.heap.size W w' := by
 have hp1 : ¬ parts < 1 := by have := hp.out; omega
 have hp8 : ¬ 8 < parts := by have := hp.out; omega
 have HPF : Hid (∀ w, Calls Tryz.prog 21 #[.agg #[.int .i64 hold, .int .i64 fan]] w fun e w' => e = .returned (.bool true) ∧ Below w.heap.size w w') := Lib.hid fun w => by have h := planForm_any hold fan w; rwa [hpl] at h
 clear hpl
 go_enter Tryz.func29, Tryz.ntmps29
 go_wp2_with (go_at_call 21; (with_reducible refine (HPF.out _).mono ?_); rintro e w2 ⟨rfl, h1⟩; have HB2 := Lib.hid (((Below.refl _ W).alloc (Nat.le_refl _) (.cells #[.int .i64 hold, .int .i64 fan] 26)).trans (h1.mono (by simp))); clear h1)
 go_loopw [22] (fun i wr => ∃ k : Nat, k ≤ n ∧ i = .int .i64 (k : Int) ∧ Hid (Below W.heap.size W wr)) (fun i _ => n - (intOf i).toNat)
 case atStart => exact ⟨0, by omega, rfl, HB2⟩
 case round =>
  obtain ⟨k, hk, rfl, HB⟩ := hrel
  by_cases hlt : k < n
  ·obtain ⟨x, hx⟩ : ∃ x, l[k]? = some x := ⟨l[k]'(by have := hn.out; omega), List.getElem?_eq_getElem _⟩
   obtain ⟨gq, off, rfl, hg, hr⟩ := evr (HE.out.keep HB.out) k x hx
   have HX := Lib.hid hr
   have HR0 : Hid ((wr.alloc (.cells #[.int .u64 (x.off : Int), .int .i64 x.part, .int .i64 x.time, .string x.key, .float .f64 x.val] 51)).heap[wr.heap.size]? = some (.cells #[.int .u64 (x.off : Int), .int .i64 x.part, .int .i64 x.time, .string x.key, .float .f64 x.val] 51 (0, 0))) := Lib.hid (heap_alloc_new' wr _)
   have HB0 : Hid (Below W.heap.size W (wr.alloc (.cells #[.int .u64 (x.off : Int), .int .i64 x.part, .int .i64 x.time, .string x.key, .float .f64 x.val] 51))) := Lib.hid (HB.out.alloc HB.out.size _)
   have HFM : Hid (formB x parts = true) := Lib.hid (hall.out x (List.mem_of_getElem? hx))
   have hlti : (k : Int) < (n : Int) := by omega
   clear hr hg hx
   go_wp2_with (first
    | (refine wpList_load_mid rfl 51 (.tmp 24) rfl gq (off + k * 5) rfl [.int .u64 (x.off : Int), .int .i64 x.part, .int .i64 x.time, .string x.key, .float .f64 x.val] _ HX.out uEvent rfl (iEvent x) ?_)
    | (refine wpList_store_row rfl 51 (.tmp 8) (.tmp 25) rfl wr.heap.size #[.int .u64 (x.off : Int), .int .i64 x.part, .int .i64 x.time, .string x.key, .float .f64 x.val] rfl rfl _ _ (heap_alloc_new' _ _) (iEvA x) (sizeEvB x) (oneEvA x) ?_; rw [World.setRow_alloc_new])
    | (refine wpList_load_row rfl 51 (.tmp 8) rfl wr.heap.size rfl _ #[.int .u64 (x.off : Int), .int .i64 x.part, .int .i64 x.time, .string x.key, .float .f64 x.val] (0, 0) _ HR0.out uEvent rfl (iEvA x) ?_)
    | (go_at_call 44; (with_reducible refine (form_any x parts _).mono ?_); rintro e w4 ⟨rfl, hb⟩; rw [HFM.out]; have HB4 := Lib.hid (below_to HB0.out hb); clear hb))
   go_roundw
   case rel => exact ⟨k + 1, by omega, by go_num, HB4⟩
   case measure => simp [intOf]; omega
  ·have hge : ¬ (k : Int) < (n : Int) := by omega
   go_wp2
   go_ret
   exact ⟨rfl, HB.out⟩
end
theorem RS.lay {TT : Nat} {dgs : Nat → ByteArray} {parts : Int} {nb bb : Nat} {xs zs : List Fil} {ps : List (Nat × List Ev)} {k : Nat} {L : List Ev} (hN : Namer dgs) (h : RS TT dgs parts nb bb xs ps k) (hk : k < 1000) (hL : Good parts L) (ht : (evP ps).flatten.length + L.length ≤ min TT 320)
  (hA : AppRel xs (rn dgs k) (runB L) zs) : RS TT dgs parts nb bb zs (ps ++ [(k, L)]) (k + 1) := by
 have hno : ∀ x ∈ xs, cmpKF x.name (rn dgs k) ≠ 0 := fun x hx => h.fresh k (Nat.le_refl _) hk x hx
 obtain ⟨Aa, c, hm, hl⟩ := app_new hno hA
 have hf := hA.facts h.rises
 have he : evP (ps ++ [(k, L)]) = evP ps ++ [L] := by unfold evP; rw [List.map_append]; rfl
 refine ⟨hf.1, fun p hp => ?_, ?_, fun p hp => ?_, fun i hi hi4 x hx => ?_, ?_, ?_, fun p hp => ?_, ?_⟩
 ·rcases List.mem_append.1 hp with hp | hp
  ·have := h.lt p hp; omega
  ·rw [List.mem_singleton.1 hp]; exact Nat.lt_succ_self _
 ·rw [List.pairwise_append]
  refine ⟨h.dis, List.pairwise_singleton _ _, fun a ha q hq => ?_⟩
  rw [List.mem_singleton.1 hq]
  have := h.lt a ha; dsimp only; omega
 ·rcases List.mem_append.1 hp with hp | hp
  ·exact Run.lay hno hA (h.run p hp)
  ·rw [List.mem_singleton.1 hp]; exact Run.new hno hA (hN.rsize hk) (hN.form k hk)
 ·rcases (hm x).1 hx with rfl | hx
  ·exact hN.inj k i hk hi4 (by omega)
  ·exact h.fresh i (by omega) hi4 x hx
 ·have h1 := h.num; rw [List.length_append, List.length_singleton]; omega
 ·have h1 := h.sum; have h3 := hf.2.1
  rw [he, runsLen_append]
  have h4 : runsLen [L] = (runB L).length := by simp [runsLen]
  rw [h4]; omega
 ·rcases List.mem_append.1 hp with hp | hp
  ·exact h.good p hp
  ·rw [List.mem_singleton.1 hp]; exact hL
 ·rw [he, List.flatten_append, List.length_append]; simpa using ht
def bgc (Z : Nat) (l : List Ev) (x : Nat) : List Ev := (l.drop (stZ Z l.length x)).take (lnZ Z l.length x)
theorem bgc_len {Z : Nat} {l : List Ev} (hZ : 1 ≤ Z) (h : 0 < l.length) (x : Nat) : (bgc Z l x).length = lnZ Z l.length x := by
 have := lnZ_facts (j := x) hZ h
 unfold bgc; rw [List.length_take, List.length_drop]; omega
theorem bgc_mem {Z : Nat} {l : List Ev} {x : Nat} {y : Ev} (h : y ∈ bgc Z l x) : y ∈ l := List.mem_of_mem_drop (List.mem_of_mem_take h)
theorem isort_can (l : List Ev) : Ordered ltM ((isort ltM l).map canE) := by
 have h := isort_ordered (lt := ltM) wkE l
 unfold Ordered at h ⊢
 rw [List.pairwise_map]
 exact h
theorem isort_memE (l : List Ev) (x : Ev) (h : x ∈ isort ltM l) : x ∈ l := isort_memM l x h
theorem Good.first {parts : Int} {l : List Ev} (h0 : 0 < l.length) (hf : ∀ x ∈ l, FineE x) (hp : ∀ x ∈ l, formB x parts = true) : Good parts (isort ltM l) :=
 ⟨by rw [isort_len]; exact h0, fun x hx => hf x (isort_memE l x hx), fun x hx => hp x (isort_memE l x hx), isort_can l⟩
def bgP (Z : Nat) (l : List Ev) (pre : List Nat) : List (Nat × List Ev) := pre.mapIdx fun i x => (i, isort ltM (bgc Z l x))
theorem bgP_snoc (Z : Nat) (l : List Ev) (pre : List Nat) (x : Nat) : bgP Z l (pre ++ [x]) = bgP Z l pre ++ [(pre.length, isort ltM (bgc Z l x))] := by
 unfold bgP; rw [List.mapIdx_concat]
theorem bgP_len (Z : Nat) (l : List Ev) (pre : List Nat) : (bgP Z l pre).length = pre.length := by unfold bgP; rw [List.length_mapIdx]
theorem bgP_tot {Z : Nat} {l : List Ev} (hZ : 1 ≤ Z) (h : 0 < l.length) (pre : List Nat) : (evP (bgP Z l pre)).flatten.length ≤ pre.length * min Z l.length := by
 have key : ∀ (n : Nat) (pre : List Nat), pre.length = n → (evP (bgP Z l pre)).flatten.length ≤ pre.length * min Z l.length := by
  intro n
  induction n with
  | zero => intro pre hp; rw [List.eq_nil_of_length_eq_zero hp]; exact Nat.zero_le _
  | succ n ih =>
   intro pre hp
   rcases List.eq_nil_or_concat pre with rfl | ⟨q, x, rfl⟩
   ·simp at hp
   ·rw [List.concat_eq_append] at hp ⊢
    have hq : q.length = n := by simpa using hp
    have h1 := ih q hq
    have h2 := lnZ_facts (j := x) hZ h
    have h3 : (evP (bgP Z l (q ++ [x]))).flatten.length = (evP (bgP Z l q)).flatten.length + lnZ Z l.length x := by
     rw [bgP_snoc]; unfold evP
     rw [List.map_append, List.flatten_append, List.length_append]
     simp [isort_len, bgc_len hZ h]
    rw [h3, List.length_append, List.length_singleton, Nat.add_mul, Nat.one_mul]
    have h4 : lnZ Z l.length x ≤ min Z l.length := by omega
    omega
 exact key _ _ rfl
structure SortIZ (TT : Nat) (dgs : Nat → ByteArray) (base w : World) (g : Nat) (room : Int) (pz : Bool) (b : Nat) (parts : Int) (nb bb : Nat) (n0 K0 : Nat) (ops0 : Int) (j : Nat) (wr : World) (ps : List (Nat × List Ev)) (k : Nat) (xs : List Fil) (ops : Int) (gn cap : Nat) : Prop where
 rs : RS TT dgs parts nb bb xs ps k
 sa : SZ ⟨base, wr⟩ g room pz ops xs wr
 nms : Nms xs ∧ (sumN xs : Int) ≤ room
 hrow : RunsAt9 wr b g parts (some ⟨gn, 0, none⟩) ps.length cap k
 nm : NmAt wr gn 0 (nmP dgs ps)
 hne : gn ≠ b
 hcap : ps.length ≤ cap ∧ cap ≤ maxLen
 kx : KX b w wr
 hnum : 0 < ps.length ∧ k + 2 * ps.length ≤ K0 ∧ j + ps.length ≤ n0
 hops : 0 ≤ ops ∧ ops ≤ ops0 + 6000 * j
structure SortGZ (F : Prop) (TT : Nat) (dgs : Nat → ByteArray) (base w : World) (g : Nat) (room : Int) (b nb bb Z n0 K0 : Nat) (ops0 : Int) : Prop where
 nmr : Namer dgs
 hz : 2 ≤ Z ∧ Z ≤ 16
 hg : TabsAt base
 hgg : base.heap.size ≤ g
 hbb : base.heap.size ≤ b
 hbl : b < w.heap.size
 hnb : nb < 100
 hroom : room ≤ 16777216
 hfit : F → ((bb + 700 * TT : Nat) : Int) ≤ room
 hn0 : n0 ≤ 320
 hK0 : K0 < 998
 hops : 0 ≤ ops0 ∧ ops0 < 600000000
section
variable {F : Prop} {pz : Bool} {TT : Nat} {dgs : Nat → ByteArray} {W : Bs} {w : World} {g : Nat} {room : Int} {b nb bb Z : Nat} {parts : Int}
theorem SortIZ.pass {n0 K0 : Nat} {ops0 : Int} {j : Nat} {wr : World} {ps : List (Nat × List Ev)} {k : Nat} {xs : List Fil} {ops : Int} {gn cap : Nat} (hG : SortGZ F TT dgs W.b w g room b nb bb Z n0 K0 ops0) (h : SortIZ TT dgs W.b w g room pz b parts nb bb n0 K0 ops0 j wr ps k xs ops gn cap) (h2 : 2 ≤ ps.length) :
  Calls Tryz.prog 46 #[.pointer (some ⟨b, 0, none⟩), .int .i64 (Z : Int)] wr fun e w' => (e = .returned (.int .i64 0) ∧ ∃ xs' ops' gn' cap', SortIZ TT dgs W.b w g room pz b parts nb bb n0 K0 ops0 (j + 1) w' (pst Z ps k (ckN Z ps.length)).1 (pst Z ps k (ckN Z ps.length)).2 xs' ops' gn' cap') ∨ (∃ x : Int, e = .returned (.int .i64 x) ∧ KX b w w' ∧ Bad W.b g room pz F x w') := by
 have hz := hG.hz
 have hhalf := ckN_half (n := ps.length) hz.1
 have hpos := ckN_pos (n := ps.length) hz.1 (by omega)
 have hnum := h.hnum
 have hops := h.hops
 have hGo := hG.hops
 have hcnt := h.rs.count
 have hn0 := hG.hn0
 have hK0 := hG.hK0
 obtain ⟨cur, t, fr, q1, q2, q3⟩ := h.nm
 have hgl : gn < wr.heap.size := (Array.getElem?_eq_some_iff.1 q1).1
 have hPG : PassGZ F TT dgs W.b wr g room b gn ps.length nb bb Z ps (ckN Z ps.length) k ops wr.heap.size := ⟨hG.nmr, ⟨h.sa.below.gb.size, Nat.le_refl _, hG.hbb, Nat.lt_of_lt_of_le hG.hbl h.kx.size, h.hne, hgl⟩, rfl, by omega, hz, ckN_iff hz.1, h.rs.lt, by omega, ⟨hops.1, by omega⟩, hG.hg, hG.hgg, hG.hnb, hG.hroom, hG.hfit⟩
 refine (passZ_any (pz := pz) (W := ⟨W.b, wr⟩) hPG h.rs h.sa h.nms.1 h.nms.2 h.hrow ⟨cur, t, fr, q1, q2, q3⟩ h.hcap.1 h.hcap.2).mono ?_
 rintro e w' (⟨rfl, xs', ops', gn', cap', hrs, hsa, hns, hsz, hop, hrow, hnm, hgn, hc1, hc2, hkx⟩ | ⟨x, rfl, hkx, hbd⟩)
 rotate_left 1
 ·exact .inr ⟨x, rfl, h.kx.trans hkx, hbd⟩
 have hle := pst_le Z ps k (ckN Z ps.length)
 have hln := pst_len Z ps k (ckN Z ps.length)
 have hbl := hG.hbl
 have hkxs := h.kx.size
 exact .inl ⟨rfl, xs', ops', gn', cap', hrs, hsa, ⟨hns, hsz⟩, by rw [hln]; exact hrow, hnm, by omega, by rw [hln]; exact ⟨hc1, hc2⟩, h.kx.trans hkx, by rw [hln]; omega, by constructor; exact hop.1; omega⟩
end
end Go.Proofs.YtjldamkmdkaiiaaGreatDoor
