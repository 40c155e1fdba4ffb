/-
  Layer column: texts that a call owns; appends of them; rows of texts; times of texts.
-/
import Derived.Test.YtjldamkmdkaiiaaGreatDoorDaK
import Derived.Test.YtjldamkmdkaiiaaGreatDoorCfK
set_option linter.unusedSimpArgs false
set_option linter.unusedVariables false
set_option maxRecDepth 8000
namespace Go.Proofs.YtjldamkmdkaiiaaGreatDoor
open Go.RowKit Go.WideShapes Col
theorem IsAt.kept {S : Nat → Prop} {w w' : World} {a : Option Addr} {l : List Int} (h : IsAt w a l) (hk : Kept S w w') (ho : ∀ b, a = some b → ¬ S b.block) : IsAt w' a l := fun k x hx => by
 obtain ⟨h1, g, off, h2, h3, h4⟩ := h k x hx
 have e := ho _ h2
 exact ⟨h1, g, off, h2, Nat.lt_of_lt_of_le h3 hk.size, (hk.cell (p := ⟨g, off + k, none⟩) h3 e).trans h4⟩
theorem OwnI.ltI {w : World} {B n cap : Nat} {A : Option Addr} {l : List Int} (h : OwnI w B A n cap l) (k : Nat) (hk : A.map (·.block) = some k) : k < w.heap.size := by
 rcases h.1.2 with ⟨h1, _⟩ | ⟨a, cap', cur, h1, hb, hrow, -⟩
 ·injection h1 with e1 e2 e3; rw [e1] at hk; cases hk
 ·injection h1 with e1 e2 e3; rw [e1] at hk; simp at hk; subst hk; exact (Array.getElem?_eq_some_iff.1 hrow).1
theorem un_snoc (xs : List Int) (k : Nat) (x : Int) (h : xs[k]? = some x) : (xs.map u64N).take (k + 1) = (xs.map u64N).take k ++ [u64N x] := by
 rw [List.take_add_one, List.getElem?_map, h]; rfl
theorem fill_setN (xs : List Nat) (n k : Nat) (hx : xs.length = k) (hk : k < n) (x : Nat) : (xs ++ List.replicate (n - k) 0).set k x = (xs ++ [x]) ++ List.replicate (n - (k + 1)) 0 := by
 obtain ⟨m, rfl⟩ : ∃ m, n = k + 1 + m := ⟨n - k - 1, by omega⟩
 rw [show k + 1 + m - k = m + 1 by omega, show k + 1 + m - (k + 1) = m by omega, List.replicate_succ, List.set_append_right _ _ (by omega), hx, Nat.sub_self, List.set_cons_zero, List.append_assoc]; rfl
theorem fillN_at (xs : List Nat) (n k : Nat) (hx : xs.length = k) (x : Nat) : ((xs ++ [x]) ++ List.replicate (n - (k + 1)) 0)[k]? = some x := by
 rw [List.append_assoc, List.getElem?_append_right (by omega), hx, Nat.sub_self]; rfl
set_option maxHeartbeats 4000000 in
theorem readReals_yes (g : Nat) (q : List Nat) (w : World) (H : Hid (RdM g q w)) (xs : List Int) (r : List Nat) (ho : Hid (rI q = some (xs, r))) (hok : Hid (∀ x ∈ xs, Fl.canon (u64N x) = u64N x)) (n : Nat) (hn : Hid (n = xs.length)) (hn1 : n ≤ 4096) :
  Calls Tryz.prog 144 #[.pointer (some ⟨g, 0, none⟩)] w fun e w' => ∃ L, e = .returned (.slice (some ⟨L, 0, none⟩) n n) ∧ w.heap.size ≤ L ∧ RowF w' L (xs.map u64N) ∧ RdM g r w' ∧ Kept (Only g) w w' := by
 obtain ⟨iu, hiu, hz0, hz1, hz2⟩ := info_parts infoF64
 have hzb : iu.bytes * n ≤ 281474976710656 := by rw [hz2]; omega
 have hnm : n ≤ maxLen := by unfold maxLen; omega
 have HI := Lib.hid (readInts_any g q w H)
 have hgl := H.out.1.glt
 have HLEN : Hid ((xs.map u64N).length = n) := Lib.hid (by rw [List.length_map]; exact hn.out.symm)
 go_enter Tryz.func144, Tryz.ntmps144
 go_wp2_with (first
  | (go_at_call 140; go_loud (refine (HI.out).mono ?_; intro e w2 h8; rw [ho.out] at h8; have h8 : (∃ A n' cap, e = .returned (.slice A n' cap) ∧ OwnI w2 w.heap.size A n' cap xs) ∧ RdM g r w2 ∧ Kept (Only g) w w2 := h8; obtain ⟨⟨A, n', cap, rfl, h3⟩, h4, h5⟩ := h8; obtain rfl : n' = n := (by have e1 := h3.len; have e2 := hn.out; omega); have HOW := Lib.hid h3; have HRD := Lib.hid h4; have HK := Lib.hid h5; clear h3 h4 h5))
  | (refine wpList_make_full _ rfl (.tmp 10) (.tmp 10) 120 rfl w2.heap.size 49 iu (.float .f64 0) 1 Tryz.underlying120 hiu hz0 hz1 .i64 .i64 _ _ n' rfl rfl rfl rfl hzb hnm (Nat.le_refl _) ?_; intro w3 own hgr; have HRF := Lib.hid (rowF_zeros own); have HB3 : Hid (Below w2.heap.size w2 w3) := Lib.hid ((Below.refl _ w2).grown hgr (Nat.le_refl _) (by intro k hk; cases hk)); clear own hgr))
 obtain ⟨L, hL⟩ : ∃ L, L = w2.heap.size := ⟨_, rfl⟩
 rw [← hL] at HRF ⊢
 have hwL : w.heap.size ≤ L := by rw [hL]; exact HK.out.size
 have HRD3 : Hid (RdM g r w3) := Lib.hid (HRD.out.high (S := fun _ => False) (Kept.of_below HB3.out) fun k e => e.elim)
 have HIS3 : Hid (IsAt w3 A xs) := Lib.hid (HOW.out.isAt.keep HB3.out)
 have HAL : Hid (∀ b, A = some b → b.block ≠ L) := Lib.hid fun b e => by have := HOW.out.ltI b.block (by rw [e]; rfl); omega
 have HK3 : Hid (Kept (Only g) w w3) := Lib.hid (HK.out.trans (Kept.of_below HB3.out))
 clear hL HOW HRD HK HB3 HI
 go_loopw [14] (fun v wr => ∃ k : Nat, k ≤ n' ∧ v = .int .i64 (k : Int) ∧ RowF wr L ((xs.map u64N).take k ++ List.replicate (n' - k) 0) ∧ RdM g r wr ∧ Kept (fun j => j = L) w3 wr) (fun v _ => n' - (intOf v).toNat)
 case atStart => exact ⟨0, Nat.zero_le _, rfl, by simpa using HRF.out, HRD3.out, Kept.refl _ _⟩
 case round =>
  obtain ⟨k, hk, rfl, hrow, hrd, hkp⟩ := hrel
  have HROW := Lib.hid hrow; have HRD := Lib.hid hrd; have HKL := Lib.hid hkp
  clear hrow hrd hkp HRF
  by_cases hlt : k < n'
  ·obtain ⟨x, hx⟩ : ∃ x, xs[k]? = some x := ⟨xs[k]'(by have := hn.out; omega), List.getElem?_eq_getElem _⟩
   obtain ⟨-, ga, oa, rfl, hga, hca⟩ := (HIS3.out.kept HKL.out (fun b e h => HAL.out b e h)) k x hx
   have HGA := Lib.hid hga; have HCA := Lib.hid hca
   have HNE : Hid (ga ≠ L) := Lib.hid (HAL.out _ rfl)
   obtain ⟨hu1, hu2⟩ := u64N_eq x
   have HSN := Lib.hid (un_snoc xs k x hx)
   have hcan := hok.out x (List.mem_of_getElem? hx)
   obtain ⟨u, hu⟩ : ∃ u, u = u64N x := ⟨_, rfl⟩
   rw [← hu] at hu1 hu2 hcan HSN
   have hOF := of_any u hu2
   rw [hcan] at hOF
   have HOF := Lib.hid hOF
   have hBI := bits_any u hu2
   rw [hcan] at hBI
   have HBI := Lib.hid hBI
   have f2 := HROW.out.fr k
   obtain ⟨u2, c2⟩ := HROW.out.at k (by rw [List.length_append, List.length_replicate, List.length_take]; have := HLEN.out; omega)
   have HSET := Lib.hid (fill_setN ((xs.map u64N).take k) n' k (by rw [List.length_take]; have := HLEN.out; omega) hlt u)
   have HAT := Lib.hid (fillN_at ((xs.map u64N).take k) n' k (by rw [List.length_take]; have := HLEN.out; omega) u)
   have s1 := run_store_flC wr ⟨L, k, none⟩ u u2 c2 f2
   have HR2 : Hid (RowF (wr.setCell ⟨L, k, none⟩ (.float .f64 u)) L ((xs.map u64N).take (k + 1) ++ List.replicate (n' - (k + 1)) 0)) := Lib.hid (by rw [HSN.out, ← HSET.out]; exact HROW.out.set k u)
   have HK2 : Hid (Kept (fun j => j = L) wr (wr.setCell ⟨L, k, none⟩ (.float .f64 u))) := Lib.hid ((Kept.refl _ _).setCell _ _ (.inl rfl))
   have HRD2 : Hid (RdM g r (wr.setCell ⟨L, k, none⟩ (.float .f64 u))) := Lib.hid (HRD.out.high HK2.out fun j hj => by have hj : j = L := hj; omega)
   clear hx hu hcan hOF hBI hga
   go_upto_region 7 with (go_at_call 182; refine (HOF.out _).mono ?_; rintro e w9 ⟨rfl, rfl⟩)
   clear s1 c2 f2 hca
   generalize wr.setCell ⟨L, k, none⟩ (.float .f64 u) = w4 at *
   have c4 : w4.cell? ⟨L, k, none⟩ = some (.float .f64 u) := HR2.out.cell k u (by rw [HSN.out]; exact HAT.out)
   have huu : ((u : Int) == (u : Int)) = true := by simp
   go_wp2_with (first
    | (go_at_call 99; refine (HBI.out _).mono ?_; rintro e w9 ⟨rfl, rfl⟩)
    | (go_at_call 121; (with_reducible refine (check_true _ _).mono ?_); rintro e w9 ⟨rfl, rfl⟩))
   go_roundw
   case rel => exact ⟨k + 1, by omega, by go_num, HR2.out, HRD2.out, HKL.out.trans HK2.out⟩
   case measure => simp [intOf]; omega
  ·obtain rfl : k = n' := by omega
   go_wp2
   go_ret
   have hr := HROW.out
   rw [Nat.sub_self, List.replicate_zero, List.append_nil, List.take_of_length_le (by have := HLEN.out; omega)] at hr
   exact ⟨L, rfl, hwL, hr, HRD.out, HK3.out.trans' HKL.out fun j hj => .inr (by have hj : j = L := hj; omega)⟩
def RdLF (us : List Nat) (n cl B : Nat) (b : Bool) (w : World) : Prop := b = true ∧ ∃ L, w.heap[cl]? = some (.cells #[.slice (some ⟨L, 0, none⟩) n n] 120 (0, 0)) ∧ RowF w L us ∧ B ≤ L
set_option maxHeartbeats 2000000 in
theorem listFnF_yes (g bf cl : Nat) (q : List Nat) (hql : q.length ≤ 1099511627776) (xs : List Int) (ho : Hid (rI q = some (xs, []))) (hok : Hid (∀ x ∈ xs, Fl.canon (u64N x) = u64N x)) (n : Nat) (hn : Hid (n = xs.length)) (hn1 : n ≤ 4096) (w : World) (HR : Hid (Rd w g q)) (Hf : Hid (w.heap[bf]? = some (.cells #[.func (.func 144) #[] #[]] 191 (0, 0)))) (Hc : Hid (w.heap[cl]? = some (.cells #[.slice none 0 0] 120 (0, 0)))) (h1 : cl < g) (h2 : bf < g) :
  Calls Tryz.prog 181 #[.pointer (some ⟨g, 0, none⟩), .pointer (some ⟨bf, 0, none⟩), .pointer (some ⟨cl, 0, none⟩)] w (Tried g (fun k => k = cl) (RdLF (xs.map u64N) n cl (g + 1)) w) := by
 have hc : w.cell? ⟨bf, 0, none⟩ = some (.func (.func 144) #[] #[]) := by rw [cell_of_row _ _ _ _ _ _ Hf.out]; rfl
 have HI := Lib.hid (readReals_yes g q w (Lib.hid ⟨HR.out, hql⟩) xs [] ho hok n hn hn1)
 have hgl := HR.out.glt
 go_enter Tryz.func181, Tryz.ntmps181
 go_wp2_with (go_at_call 144; refine (HI.out).mono ?_; rintro e w3 ⟨L, rfl, hL, hrf, hrd, hk⟩; have HRF := Lib.hid hrf; have HRD := Lib.hid hrd; have HK := Lib.hid hk; have hrow := hk.heap Hc.out (fun e => by have e : cl = g := e; omega); have c3 : w3.cell? ⟨cl, 0, none⟩ = some (.slice none 0 0) := (by rw [cell_of_row _ _ _ _ _ _ hrow]; rfl); have f3 : w3.frozen? ⟨cl, 0, none⟩ = false := row_frozen hrow 0; have HROW := Lib.hid hrow; clear hrf hrd hk hrow)
 have hk : Kept (fun k => k = cl) w3 (w3.setCell ⟨cl, 0, none⟩ (.slice (some ⟨L, 0, none⟩) n n)) := (Kept.refl _ _).setCell _ _ (.inl rfl)
 have hrow2 : (w3.setCell ⟨cl, 0, none⟩ (.slice (some ⟨L, 0, none⟩) n n)).heap[cl]? = some (.cells #[.slice (some ⟨L, 0, none⟩) n n] 120 (0, 0)) := by
  have := HROW.out; rw [World.setCell]; simp [Array.getElem?_modify, this]
 have hkk : Kept (fun k => k = cl ∨ k = g) w (w3.setCell ⟨cl, 0, none⟩ (.slice (some ⟨L, 0, none⟩) n n)) := (HK.out.mono fun k hk => .inl (.inr hk)).setCell _ _ (.inl (.inl rfl))
 refine bodyPost_end (results_none rfl _ _ _) rfl ⟨hkk, .inl ⟨[], rfl, HRD.out.1.high' hk (fun k hk => by have hk : k = cl := hk; omega) (fun A C h => off_slice h.bytes HROW.out), rfl, L, hrow2, HRF.out.keep hk (fun e => by have e : L = cl := e; omega), by omega⟩⟩
set_option maxHeartbeats 2000000 in
theorem readRealsC_yes (A : Option Addr) (C : Nat) (q : List Nat) (m : Nat) (hm : Hid (m = q.length)) (hm4 : m ≤ 1099511627776) (hC : m ≤ C) (hC' : C ≤ maxLen) (xs : List Int) (ho : Hid (rI q = some (xs, []))) (hok : Hid (∀ x ∈ xs, Fl.canon (u64N x) = u64N x)) (n : Nat) (hn : Hid (n = xs.length)) (hn1 : n ≤ 4096) (w : World) (HA : Hid (ByAt w A q)) :
  Calls Tryz.prog 120 #[.slice A m C] w fun e w' => ∃ L, e = .returned (.tuple #[.slice (some ⟨L, 0, none⟩) n n, .int .i64 0]) ∧ RowF w' L (xs.map u64N) ∧ Below w.heap.size w w' := by
 have hin : Calls Tryz.prog 143 #[.slice A m C, .func (.func 144) #[] #[]] w fun e w' => ∃ L, e = .returned (.tuple #[.slice (some ⟨L, 0, none⟩) n n, .int .i64 0]) ∧ RowF w' L (xs.map u64N) ∧ Below w.heap.size w w' := by
  obtain ⟨bf, w1, hbf, hw1, hrow1, hb1, hbf1⟩ := alloc_pt w (.func (.func 144) #[] #[]) 191
  obtain ⟨cl, w2, hcl, hw2, hrow2, hb2, hcl2⟩ := alloc_pt w1 (.slice none 0 0) 120
  have HW : Hid ((w.alloc (.cells #[.func (.func 144) #[] #[]] 191)).alloc (.cells #[.slice none 0 0] 120) = w2) := Lib.hid (by rw [hw2, hw1])
  have hsz : w1.heap.size = w.heap.size + 1 := by rw [hw1]; simp
  have HBF := Lib.hid hbf; have HCL : Hid (cl = w.heap.size + 1) := Lib.hid (by rw [hcl, hsz])
  have HB2 : Hid (Below w.heap.size w w2) := Lib.hid (below_to hb1 hb2)
  have hrf2 := (Kept.of_below (S := fun _ => False) hb2).heap hrow1 fun e => e
  have ht := try_any 181 #[] #[.pointer (some ⟨bf, 0, none⟩), .pointer (some ⟨cl, 0, none⟩)] A C q m hm hC hC' w2 (Lib.hid (HA.out.keep HB2.out)) (fun k => k = cl) (fun k hk => by have hk : k = cl := hk; omega)
   (fun g => RdLF (xs.map u64N) n cl (g + 1)) (RdLF (xs.map u64N) n cl w2.heap.size) (fun g b v2 v3 hg h hk => by
    obtain ⟨hb, L, hrow, hrf, hl⟩ := h
    exact ⟨hb, L, hk.heap hrow fun e => by have e : cl = g := e; omega, hrf.keep hk (fun e => by have e : L = g := e; omega), by omega⟩)
   (fun g v1 hg hr hb => listFnF_yes g bf cl q (by rw [← hm.out]; exact hm4) xs ho hok n hn hn1 v1 (Lib.hid hr) (Lib.hid ((Kept.of_below (S := fun _ => False) hb).heap hrf2 fun e => e)) (Lib.hid ((Kept.of_below (S := fun _ => False) hb).heap hrow2 fun e => e)) (by omega) (by omega))
   (fun _ _ => by first | rfl | kernel_rfl)
  have HT := Lib.hid ht
  clear ht hbf hw1 hrow1 hb1 hcl hw2 hrow2 hb2 hrf2 hbf1
  go_enter Tryz.func143, Tryz.ntmps143
  go_upto_region 2 with fail
  have e1 : w.heap.size = bf := HBF.out.symm
  have e2 : w.heap.size + 1 = cl := HCL.out.symm
  have hx : ∀ w3 : World, Kept (fun k => k = cl) w2 w3 → Below w.heap.size w w3 := fun w3 hk => HB2.out.trans (hk.below (B := w.heap.size) (by omega) fun k hk => by have hk : k = cl := hk; omega)
  have HX := Lib.hid hx
  clear hx
  rw [HW.out, e2, e1]
  clear e1 e2
  go_wp2_with (go_at_call 90; (with_reducible refine (HT.out).mono ?_); rintro e w3 ⟨b, rfl, ⟨rfl, L, hrow9, hrf9, hl9⟩, hk⟩; have HB3 := Lib.hid (HX.out w3 hk); have HRF := Lib.hid hrf9; have c9c : w3.cell? ⟨cl, 0, none⟩ = some (.slice (some ⟨L, 0, none⟩) n n) := (by rw [cell_of_row _ _ _ _ _ _ hrow9]; rfl); clear hk hrow9 hrf9)
  go_ret2
  exact ⟨L, rfl, HRF.out, HB3.out⟩
 have HT := Lib.hid hin
 clear hin
 go_enter Tryz.func120, Tryz.ntmps120
 go_wp2_with (go_at_call 143; (with_reducible refine (HT.out).mono ?_); rintro e w3 ⟨L, rfl, hrf, hb⟩; have HB := Lib.hid hb; have HRF := Lib.hid hrf; clear hb hrf)
 go_ret2
 exact ⟨L, rfl, HRF.out, HB.out⟩
namespace Col
theorem rruns_len : ∀ (m : Nat) (q : List Nat) (xs : List Int) (r : List Nat), rruns m q = some (xs, r) → xs.length = m := by
 intro m
 induction m using Nat.strongRecOn with
 | _ m ih =>
  intro q xs r h
  rcases m with _ | m
  ·rw [rruns_zero] at h; injection h with h; injection h with h1 h2; rw [← h1]; rfl
  ·rcases hz : zP q with _ | ⟨x, r1⟩
   ·rw [rruns_no1 hz] at h; cases h
   ·rcases hu : uP m r1 with _ | ⟨k, r2⟩
    ·rw [rruns_no2 hz hu] at h; cases h
    ·have hk : k ≤ m := (uP_some hu).2
     rw [rruns_yes hz hu] at h
     rcases hr : rruns (m - k) r2 with _ | ⟨ys, r3⟩
     ·rw [hr] at h; cases h
     ·have := ih (m - k) (by omega) r2 ys r3 hr
      rw [hr] at h; injection h with h; injection h with h1 h2
      rw [← h1]; simp; omega
theorem rdDelta_len {n : Nat} {q r : List Nat} {xs : List Int} (h : rdDelta n q = some (xs, r)) : xs.length = n := by
 unfold rdDelta at h
 rcases ho : runS dstep n (0, q) with _ | ⟨ys, s⟩
 ·rw [ho] at h; cases h
 ·rw [ho] at h; injection h with h; injection h with h1 h2; rw [← h1]; exact runS_len ho
theorem rpk_len {n : Nat} {q r : List Nat} {xs : List Int} (h : rpk n q = some (xs, r)) : xs.length = n := by
 by_cases h0 : n = 0
 ·unfold rpk at h; rw [if_pos h0] at h; injection h with h; injection h with h1 h2; rw [← h1, h0]; rfl
 ·rcases hz : zP q with _ | ⟨mn, r1⟩
  ·unfold rpk at h; rw [if_neg h0, hz] at h; cases h
  ·rw [rpk_of h0 hz] at h
   rcases r1 with _ | ⟨W, r2⟩
   ·cases h
   ·by_cases hc : W ≤ 64 ∧ (n * W + 7) / 8 ≤ r2.length ∧ vlb (r2.take ((n * W + 7) / 8)) < 2 ^ (n * W)
    ·rw [rpk2_yes rfl hc] at h; injection h with h; injection h with h1 h2; rw [← h1]; simp
    ·rw [rpk2_no rfl hc] at h; cases h
theorem rI_len {q r : List Nat} {xs : List Int} (h : rI q = some (xs, r)) : xs.length ≤ 4096 := by
 rcases q with _ | ⟨way, q⟩
 ·cases h
 ·rcases hu : uP 4096 q with _ | ⟨n, s⟩
  ·rw [rI_no hu] at h; cases h
  ·have hn : n ≤ 4096 := (uP_some hu).2
   rw [rI_yes hu] at h
   unfold rW at h
   split at h
   ·rw [runS_len h]; exact hn
   ·split at h
    ·rw [rdDelta_len h]; exact hn
    ·split at h
     ·rw [rruns_len _ _ _ _ h]; exact hn
     ·split at h
      ·rw [rpk_len h]; exact hn
      ·cases h
def okF (xs : List Int) : Bool := xs.all fun x => decide (Fl.canon (u64N x) = u64N x)
def rF (q : List Nat) : Option (List Nat × List Nat) := match rI q with
 | some p => if okF p.1 then some (p.1.map u64N, p.2) else none
 | none => none
end Col
namespace Col
def rFL (q : List Nat) : Option (List Nat) := match rF q with
 | some (us, []) => some us
 | _ => none
end Col
def RdFA (q : List Nat) (cl B : Nat) (b : Bool) (w : World) : Prop := match b with
 | true => ∃ L n us, rFL q = some us ∧ n = us.length ∧ w.heap[cl]? = some (.cells #[.slice (some ⟨L, 0, none⟩) n n] 120 (0, 0)) ∧ RowF w L us ∧ B ≤ L
 | false => rFL q = none
theorem RdFA.keep {q : List Nat} {cl B B' g : Nat} {b : Bool} {w w' : World} (h : RdFA q cl B b w) (hk : Kept (Only g) w w') (h1 : cl ≠ g) (h2 : g < B) (hB : B' ≤ B) : RdFA q cl B' b w' := by
 cases b with
 | false => exact h
 | true =>
  obtain ⟨L, n, us, e1, e2, hrow, hrf, hl⟩ := h
  exact ⟨L, n, us, e1, e2, hk.heap hrow fun e => h1 e, hrf.keep hk (fun e => by have e : L = g := e; omega), by omega⟩
theorem FlAt.wf {w : World} {a : Option Addr} {l : List Nat} (h : FlAt w a l) : ∀ x ∈ l, x < 18446744073709551616 := fun x hx => by
 obtain ⟨k, hk⟩ := List.getElem?_of_mem hx
 exact (h k x hk).1
theorem FlAt.nil (w : World) (a : Option Addr) : FlAt w a [] := fun k x hx => by simp at hx
theorem FlAt.at' {w w' : World} {a : Option Addr} {l : List Nat} (h : Hid (FlAt w a l)) (hb : Below w.heap.size w w') : Hid (FlAt w' a l) := h.out.keep hb
theorem FlAt.spot {w : World} {a : Option Addr} {l : List Nat} (h : FlAt w a l) (h0 : 0 < l.length) : ∃ g off, a = some ⟨g, off, none⟩ ∧ g < w.heap.size ∧ ∀ (k : Nat) (x : Nat), l[k]? = some x → w.cell? ⟨g, off + k, none⟩ = some (.float .f64 x) := by
 obtain ⟨-, g, off, rfl, hg, -⟩ := h 0 l[0] (List.getElem?_eq_getElem h0)
 refine ⟨g, off, rfl, hg, fun k x hx => ?_⟩
 obtain ⟨-, g', off', h2, -, hc⟩ := h k x hx
 cases h2
 exact hc
theorem fvs_length (l : List Nat) : (fvs l).length = l.length := List.length_map ..
theorem FlAt.of_row {w : World} {g : Nat} {cs : Array Value} {t : TypeId} {fr : Nat × Nat} (l : List Nat) (hl : ∀ x ∈ l, x < 18446744073709551616) (hrow : w.heap[g]? = some (.cells cs t fr)) (hcs : (fvs l).IsPrefix cs.toList) : FlAt w (some ⟨g, 0, none⟩) l := fun k x hx => by
 refine ⟨hl x (List.mem_of_getElem? hx), g, 0, rfl, (Array.getElem?_eq_some_iff.1 hrow).1, ?_⟩
 rw [cell_of_row w g (0 + k) cs t fr hrow, Nat.zero_add, ← Array.getElem?_toList]
 obtain ⟨r, hr⟩ := hcs
 have hk : k < (fvs l).length := by rw [fvs_length]; exact (List.getElem?_eq_some_iff.1 hx).1
 rw [← hr, List.getElem?_append_left hk]
 unfold fvs; rw [List.getElem?_map, hx]; rfl
def OwnF (w : World) (B : Nat) (A : Option Addr) (n cap : Nat) (l : List Nat) : Prop := w.ownsRow B 49 1 (.slice A n cap) n (fvs l) ∧ ∀ x ∈ l, x < 18446744073709551616
theorem OwnF.len {w : World} {B n cap : Nat} {A : Option Addr} {l : List Nat} (h : OwnF w B A n cap l) : n = l.length := by have := h.1.1; rw [fvs_length] at this; omega
theorem OwnF.caps {w : World} {B n cap : Nat} {A : Option Addr} {l : List Nat} (h : OwnF w B A n cap l) : n ≤ cap ∧ cap ≤ maxLen := by
 rcases h.1.2 with ⟨h1, h2⟩ | ⟨g, cap', cur, h1, -, -, h2, h3, -⟩
 ·cases h1; exact ⟨Nat.le_refl _, Nat.zero_le _⟩
 ·cases h1; exact ⟨h2, h3⟩
theorem OwnF.isAt {w : World} {B n cap : Nat} {A : Option Addr} {l : List Nat} (h : OwnF w B A n cap l) : FlAt w A l := by
 rcases h.1.2 with ⟨h1, h2⟩ | ⟨g, cap', cur, h1, hb, hrow, -, -, hs, ht⟩
 ·have := h.len
  have hl : l = [] := List.eq_nil_of_length_eq_zero (by omega)
  subst hl; exact FlAt.nil _ _
 ·cases h1
  exact FlAt.of_row l h.2 hrow ⟨cur.toList.drop (n * 1), by rw [← ht, List.take_append_drop]⟩
theorem OwnF.nil (w : World) (B : Nat) : OwnF w B none 0 0 [] := ⟨w.ownsRow_nil B _ 1, fun x hx => by cases hx⟩
theorem OwnF.keep {w w' : World} {B n cap : Nat} {A : Option Addr} {l : List Nat} (h : OwnF w B A n cap l) (hb : Below w.heap.size w w') : OwnF w' B A n cap l :=
 ⟨h.1.kept (row := none) ⟨hb.os, hb.tape, hb.output, hb.size, fun k hk _ => hb.block k hk⟩ (by rcases A with _ | a <;> simp [Value.ownBlock]), h.2⟩
theorem OwnF.base {w : World} {B n cap : Nat} {A : Option Addr} {l : List Nat} (h : OwnF w B A n cap l) : ∀ k, A.map (·.block) = some k → B ≤ k := fun k hk => by
 rcases h.1.2 with ⟨h1, h2⟩ | ⟨g, cap', cur, h1, hb, _⟩
 ·cases h1; cases hk
 ·cases h1; simp at hk; omega
theorem OwnF.more {w : World} {B n cap : Nat} {A : Option Addr} {l : List Nat} {B' : Nat} (h : OwnF w B A n cap l) (hB : B' ≤ B) : OwnF w B' A n cap l := by
 refine ⟨⟨h.1.1, ?_⟩, h.2⟩
 rcases h.1.2 with h1 | ⟨g, cap', cur, h1, hb, h2⟩
 ·exact .inl h1
 ·exact .inr ⟨g, cap', cur, h1, Nat.le_trans hB hb, h2⟩
def WfT (x : List Nat) : Prop := ∀ c ∈ x, c < 256
def TxAt (w : World) (a : Option Addr) (l : List (List Nat)) : Prop := ∀ (k : Nat) (x : List Nat), l[k]? = some x → WfT x ∧ ∃ g off, a = some ⟨g, off, none⟩ ∧ g < w.heap.size ∧ w.cell? ⟨g, off + k, none⟩ = some (.string (strB x))
theorem TxAt.keep {w w' : World} {a : Option Addr} {l : List (List Nat)} (h : TxAt w a l) (hb : Below w.heap.size w w') : TxAt w' a l := fun k x hx => by
 obtain ⟨h1, g, off, h2, h3, h4⟩ := h k x hx
 exact ⟨h1, g, off, h2, Nat.lt_of_lt_of_le h3 hb.size, (hb.cell (p := ⟨g, off + k, none⟩) h3).trans h4⟩
theorem TxAt.wf {w : World} {a : Option Addr} {l : List (List Nat)} (h : TxAt w a l) : ∀ x ∈ l, WfT x := fun x hx => by
 obtain ⟨k, hk⟩ := List.getElem?_of_mem hx
 exact (h k x hk).1
theorem TxAt.nil (w : World) (a : Option Addr) : TxAt w a [] := fun k x hx => by simp at hx
theorem TxAt.at' {w w' : World} {a : Option Addr} {l : List (List Nat)} (h : Hid (TxAt w a l)) (hb : Below w.heap.size w w') : Hid (TxAt w' a l) := h.out.keep hb
theorem TxAt.spot {w : World} {a : Option Addr} {l : List (List Nat)} (h : TxAt w a l) (h0 : 0 < l.length) : ∃ g off, a = some ⟨g, off, none⟩ ∧ g < w.heap.size ∧ ∀ (k : Nat) (x : List Nat), l[k]? = some x → w.cell? ⟨g, off + k, none⟩ = some (.string (strB x)) := by
 obtain ⟨-, g, off, rfl, hg, -⟩ := h 0 l[0] (List.getElem?_eq_getElem h0)
 refine ⟨g, off, rfl, hg, fun k x hx => ?_⟩
 obtain ⟨-, g', off', h2, -, hc⟩ := h k x hx
 cases h2
 exact hc
def tv (x : List Nat) : Value := .string (strB x)
def tvs (l : List (List Nat)) : List Value := l.map tv
theorem tvs_length (l : List (List Nat)) : (tvs l).length = l.length := List.length_map ..
theorem tvs_one (l : List (List Nat)) : ∀ u ∈ tvs l, u.oneCell' = true := fun u hu => by
 obtain ⟨x, -, rfl⟩ := List.mem_map.1 hu; rfl
theorem TxAt.of_row {w : World} {g : Nat} {cs : Array Value} {t : TypeId} {fr : Nat × Nat} (l : List (List Nat)) (hl : ∀ x ∈ l, WfT x) (hrow : w.heap[g]? = some (.cells cs t fr)) (hcs : (tvs l).IsPrefix cs.toList) : TxAt w (some ⟨g, 0, none⟩) l := fun k x hx => by
 refine ⟨hl x (List.mem_of_getElem? hx), g, 0, rfl, (Array.getElem?_eq_some_iff.1 hrow).1, ?_⟩
 rw [cell_of_row w g (0 + k) cs t fr hrow, Nat.zero_add, ← Array.getElem?_toList]
 obtain ⟨r, hr⟩ := hcs
 have hk : k < (tvs l).length := by rw [tvs_length]; exact (List.getElem?_eq_some_iff.1 hx).1
 rw [← hr, List.getElem?_append_left hk]
 unfold tvs; rw [List.getElem?_map, hx]; rfl
theorem infoStr : (Tryz.prog.info? 9).map (fun i => (i.zero, i.size, i.bytes)) = some (some (.string { data := #[] }), 1, 16) := by kernel_rfl
def OwnX (w : World) (B : Nat) (A : Option Addr) (n cap : Nat) (l : List (List Nat)) : Prop := w.ownsRow B 9 1 (.slice A n cap) n (tvs l) ∧ ∀ x ∈ l, WfT x
theorem OwnX.len {w : World} {B n cap : Nat} {A : Option Addr} {l : List (List Nat)} (h : OwnX w B A n cap l) : n = l.length := by have := h.1.1; rw [tvs_length] at this; omega
theorem OwnX.caps {w : World} {B n cap : Nat} {A : Option Addr} {l : List (List Nat)} (h : OwnX w B A n cap l) : n ≤ cap ∧ cap ≤ maxLen := by
 rcases h.1.2 with ⟨h1, h2⟩ | ⟨g, cap', cur, h1, -, -, h2, h3, -⟩
 ·cases h1; exact ⟨Nat.le_refl _, Nat.zero_le _⟩
 ·cases h1; exact ⟨h2, h3⟩
theorem OwnX.isAt {w : World} {B n cap : Nat} {A : Option Addr} {l : List (List Nat)} (h : OwnX w B A n cap l) : TxAt w A l := by
 rcases h.1.2 with ⟨h1, h2⟩ | ⟨g, cap', cur, h1, hb, hrow, -, -, hs, ht⟩
 ·have := h.len
  have hl : l = [] := List.eq_nil_of_length_eq_zero (by omega)
  subst hl; exact TxAt.nil _ _
 ·cases h1
  exact TxAt.of_row l h.2 hrow ⟨cur.toList.drop (n * 1), by rw [← ht, List.take_append_drop]⟩
theorem OwnX.nil (w : World) (B : Nat) : OwnX w B none 0 0 [] := ⟨w.ownsRow_nil B _ 1, fun x hx => by cases hx⟩
theorem OwnX.keep {w w' : World} {B n cap : Nat} {A : Option Addr} {l : List (List Nat)} (h : OwnX w B A n cap l) (hb : Below w.heap.size w w') : OwnX w' B A n cap l :=
 ⟨h.1.kept (row := none) ⟨hb.os, hb.tape, hb.output, hb.size, fun k hk _ => hb.block k hk⟩ (by rcases A with _ | a <;> simp [Value.ownBlock]), h.2⟩
theorem OwnX.base {w : World} {B n cap : Nat} {A : Option Addr} {l : List (List Nat)} (h : OwnX w B A n cap l) : ∀ k, A.map (·.block) = some k → B ≤ k := fun k hk => by
 rcases h.1.2 with ⟨h1, h2⟩ | ⟨g, cap', cur, h1, hb, _⟩
 ·cases h1; cases hk
 ·cases h1; simp at hk; omega
theorem tx_at {w : World} {a : Addr} {l : List (List Nat)} (h : TxAt w (some a) l) (j : Nat) (u : Value) (hu : (tvs l)[j]? = some u) : w.cell? (a.add j) = some u := by
 unfold tvs at hu
 rw [List.getElem?_map] at hu
 rcases hx : l[j]? with _ | x
 ·rw [hx] at hu; cases hu
 ·rw [hx] at hu
  obtain ⟨-, g, off, e, -, hc⟩ := h j x hx
  cases e
  rw [addr_add, hc]; exact hu
def RowT (w : World) (g : Nat) (l : List (List Nat)) : Prop := w.heap[g]? = some (.cells (tvs l).toArray 9 (0, 0))
section
variable {w : World} {g : Nat} {l : List (List Nat)}
theorem RowT.fr (h : RowT w g l) (i : Nat) : w.frozen? ⟨g, i, none⟩ = false := row_frozen h i
theorem RowT.at (h : RowT w g l) (i : Nat) (hi : i < l.length) : ∃ u, w.cell? ⟨g, i, none⟩ = some u := by
 rw [cell_of_row _ _ _ _ _ _ h, List.getElem?_toArray]
 exact ⟨_, List.getElem?_eq_getElem (by rw [tvs_length]; exact hi)⟩
theorem RowT.set (h : RowT w g l) (i : Nat) (x : List Nat) : RowT (w.setCell ⟨g, i, none⟩ (.string (strB x))) g (l.set i x) := by
 unfold RowT at *
 rw [World.setCell]
 simp only [Array.getElem?_modify, if_pos, h, Option.map_some]
 have e : (tvs l).toArray.setIfInBounds i (.string (strB x)) = (tvs (l.set i x)).toArray := by
  unfold tvs; rw [List.map_set]; simp; rfl
 simp [e]
theorem RowT.keep {S : Nat → Prop} {w' : World} (h : RowT w g l) (hk : Kept S w w') (hg : ¬ S g) : RowT w' g l := hk.heap h hg
theorem RowT.own {B : Nat} (h : RowT w g l) (hB : B ≤ g) (hl : ∀ x ∈ l, WfT x) (hm : l.length ≤ maxLen) : OwnX w B (some ⟨g, 0, none⟩) l.length l.length l := by
 refine ⟨⟨by rw [tvs_length]; omega, .inr ⟨g, l.length, _, rfl, hB, h, Nat.le_refl _, hm, by simp [tvs_length], by rw [Nat.mul_one]; simp [tvs_length, List.take_of_length_le]⟩⟩, hl⟩
end
theorem rowT_zeros {w : World} {B g q : Nat} (h : w.ownsRow B 9 1 (.slice (some ⟨g, 0, none⟩) q q) q (madeCells (Value.string { data := #[] }).cells (q * 1)).toList) : RowT w g (List.replicate q []) := by
 have e : tvs (List.replicate q []) = List.replicate q (.string { data := #[] }) := by unfold tvs; rw [List.map_replicate]; rfl
 rw [Nat.mul_one, show (Value.string { data := #[] }).cells = #[.string { data := #[] }] from rfl, toList_madeCells_one, ← e] at h
 rcases h.2 with ⟨h1, h2⟩ | ⟨g', cap', cur, h1, hb, hrow, -, -, hs, ht⟩
 ·cases h1
 ·cases h1
  unfold RowT
  rw [hrow]
  have hc : cur = (tvs (List.replicate q [])).toArray := by
   apply Array.ext'
   rw [← ht, Nat.mul_one, List.take_of_length_le (by rw [Array.length_toList, hs]; omega)]
  rw [hc]
theorem fill_setT (xs : List (List Nat)) (n k : Nat) (hx : xs.length = k) (hk : k < n) (x : List Nat) : (xs ++ List.replicate (n - k) []).set k x = (xs ++ [x]) ++ List.replicate (n - (k + 1)) [] := by
 obtain ⟨m, rfl⟩ : ∃ m, n = k + 1 + m := ⟨n - k - 1, by omega⟩
 rw [show k + 1 + m - k = m + 1 by omega, show k + 1 + m - (k + 1) = m by omega, List.replicate_succ, List.set_append_right _ _ (by omega), hx, Nat.sub_self, List.set_cons_zero, List.append_assoc]; rfl
def StepEndsT {σ : Type} (g : Nat) (Sw : Nat → Prop) (St : σ → World → Prop) (o : Option (List Nat × σ)) (w : World) (e : Ending) (w' : World) : Prop :=
 match o with
 | some p => e = .returned (.string (strB p.1)) ∧ WfT p.1 ∧ St p.2 w' ∧ Kept Sw w w'
 | none => e = .panicked [gu g] ∧ Gone w' g ∧ Kept Sw w w'
def ListEndsT {σ : Type} (g : Nat) (Sw : Nat → Prop) (St : σ → World → Prop) (o : Option (List (List Nat) × σ)) (w : World) (e : Ending) (w' : World) : Prop :=
 match o with
 | some p => (∃ A n cap, e = .returned (.slice A n cap) ∧ OwnX w' w.heap.size A n cap p.1) ∧ St p.2 w' ∧ Kept Sw w w'
 | none => e = .panicked [gu g] ∧ Gone w' g ∧ Kept Sw w w'
def RTt {σ : Type} (Sw : Nat → Prop) (St : σ → World → Prop) (step : σ → Option (List Nat × σ)) (n : Nat) (w : World) (s0 : σ) (v : Value) (wr : World) : Prop :=
 ∃ (k : Nat) (xs : List (List Nat)) (s : σ), k ≤ n ∧ v = .int .i64 (k : Int) ∧ runS step k s0 = some (xs, s) ∧ (∀ x ∈ xs, WfT x) ∧ RowT wr w.heap.size (xs ++ List.replicate (n - k) []) ∧ St s wr ∧ Kept Sw w wr ∧ w.heap.size < wr.heap.size
theorem infoStr' : (Tryz.prog.info? 9).map (fun i => (i.zero, i.size, i.bytes)) = some (some (.string { data := #[] }), 1, 16) := by kernel_rfl
set_option maxHeartbeats 2000000 in
theorem timesT_any {σ : Type} (step : σ → Option (List Nat × σ)) (F : Nat) (first cap : Array Value) (hent : ∀ (args : Array Value) (w : World), (callFunc F args).run Tryz.prog w = .ok (.enter F args) w)
  (n : Nat) (hn : n ≤ 4096) (g : Nat) (Sw : Nat → Prop) (St : σ → World → Prop) (w : World) (hSw : Hid (∀ k, Sw k → k < w.heap.size)) (hkeep : Hid (∀ s w1 w2, St s w1 → Kept (fun j => w.heap.size ≤ j) w1 w2 → St s w2))
  (s0 : σ) (hstep : Hid (∀ k xs s w1, k < n → runS step k s0 = some (xs, s) → St s w1 → w.heap.size ≤ w1.heap.size → Calls Tryz.prog F (first ++ cap) w1 (StepEndsT g Sw St (step s) w1))) (h0 : Hid (St s0 w)) :
  Calls Tryz.prog 194 #[.int .i64 (n : Int), .func (.func F) first cap] w (ListEndsT g Sw St (runS step n s0) w) := by
 obtain ⟨iu, hiu, hz0, hz1, hz2⟩ := info_parts infoStr'
 have hzb : iu.bytes * n ≤ 281474976710656 := by rw [hz2]; omega
 have hnm : n ≤ maxLen := by unfold maxLen; omega
 go_enter Tryz.func194, Tryz.ntmps194
 go_wp2_with (refine wpList_make_full _ rfl (.tmp 7) (.tmp 7) 37 rfl w.heap.size 9 iu (.string { data := #[] }) 1 Tryz.underlying37 hiu hz0 hz1 .i64 .i64 _ _ n rfl rfl rfl rfl hzb hnm (Nat.le_refl _) ?_; intro w1 own hgr; have HRI := Lib.hid (rowT_zeros own); have HB1 : Hid (Below w.heap.size w w1) := Lib.hid ((Below.refl _ w).grown hgr (Nat.le_refl _) (by intro k hk; cases hk)); clear own hgr)
 have HST : Hid (RTt Sw St step n w s0 (.int .i64 0) w1) := Lib.hid ⟨0, [], s0, Nat.zero_le _, rfl, rfl, (fun x hx => by cases hx), by simpa using HRI.out, hkeep.out _ _ _ h0.out (Kept.of_below HB1.out), Kept.of_below HB1.out, (Array.getElem?_eq_some_iff.1 HRI.out).1⟩
 obtain ⟨L, hL⟩ : ∃ L, L = w.heap.size := ⟨_, rfl⟩
 have HL := Lib.hid hL
 rw [← hL]
 clear hL HRI HB1
 go_loopw [11] (fun v wr => RTt Sw St step n w s0 v wr) (fun v _ => n - (intOf v).toNat)
 case atStart => exact HST.out
 case round =>
  obtain ⟨k, xs, s, hk, rfl, hrun, hwf, hrow, hst, hkp, hsz⟩ := hrel
  have HRUN := Lib.hid hrun; have HWF := Lib.hid hwf; have HST2 := Lib.hid hst; have HK := Lib.hid hkp; have HSZ := Lib.hid hsz
  have HROW : Hid (RowT wr L (xs ++ List.replicate (n - k) [])) := Lib.hid (HL.out ▸ hrow)
  have HXL := Lib.hid (runS_len hrun)
  clear hrun hwf hst hkp hrow HST hsz
  by_cases hlt : k < n
  ·have HC := Lib.hid (hstep.out k xs s wr hlt HRUN.out HST2.out (Nat.le_of_lt HSZ.out))
   have HNS : Hid (¬ Sw L) := Lib.hid fun h => by have := hSw.out L h; have := HL.out; omega
   rcases hs : step s with _ | ⟨x, s'⟩
   ·have HN := Lib.hid (runS_none HRUN.out hs n hlt)
    rw [hs] at HC
    have HC2 : Hid (Calls Tryz.prog F (first ++ cap) wr fun e w' => e = .panicked [gu g] ∧ Gone w' g ∧ Kept Sw wr w') := HC
    clear hs HC
    go_wp2_with ((with_reducible refine (HC2.out).mono ?_); rintro e w2 ⟨rfl, h1, h2⟩)
    rw [HN.out]
    exact ⟨rfl, rfl, h1, HK.out.trans h2⟩
   ·have HN := Lib.hid (runS_some HRUN.out hs)
    rw [hs] at HC
    have HC2 : Hid (Calls Tryz.prog F (first ++ cap) wr fun e w' => e = .returned (.string (strB x)) ∧ WfT x ∧ St s' w' ∧ Kept Sw wr w') := HC
    have HSET := Lib.hid (fill_setT xs n k HXL.out hlt x)
    clear hs HC
    go_wp2_with ((with_reducible refine (HC2.out).mono ?_); rintro e w2 ⟨rfl, h1, h2, h3⟩; have HR2 : Hid (RowT w2 L _) := Lib.hid (HROW.out.keep h3 HNS.out); have HWX := Lib.hid h1; have HS2 := Lib.hid h2; have HK2 := Lib.hid h3; have f2 := HR2.out.fr k; obtain ⟨u2, c2⟩ := HR2.out.at k (by rw [List.length_append, List.length_replicate, HXL.out]; omega); clear h1 h2 h3)
    go_roundw
    case rel =>
     have hk2 : Kept (fun j => w.heap.size ≤ j) w2 (w2.setCell ⟨L, k, none⟩ (.string (strB x))) := (Kept.refl _ _).setCell _ _ (.inl (by rw [HL.out]; exact Nat.le_refl _))
     refine ⟨k + 1, xs ++ [x], s', by omega, by go_num, HN.out, fun y hy => ?_, ?_, hkeep.out _ _ _ HS2.out hk2, (HK.out.trans HK2.out).trans' hk2 (fun i hi => .inr hi), ?_⟩
     ·rcases List.mem_append.1 hy with h | h
      ·exact HWF.out y h
      ·rw [List.mem_singleton.1 h]; exact HWX.out
     ·rw [← HSET.out, ← HL.out]; exact HR2.out.set k x
     ·rw [setCell_size]; exact Nat.lt_of_lt_of_le HSZ.out HK2.out.size
    case measure => simp [intOf]; omega
  ·obtain rfl : k = n := by omega
   go_wp2
   go_ret
   rw [HRUN.out]
   have hr := HROW.out
   rw [Nat.sub_self, List.replicate_zero, List.append_nil] at hr
   have ho := hr.own (B := w.heap.size) (by rw [HL.out]; exact Nat.le_refl _) HWF.out (by rw [HXL.out]; exact hnm)
   rw [HXL.out] at ho
   exact ⟨⟨_, _, _, rfl, ho⟩, HST2.out, HK.out⟩
end Go.Proofs.YtjldamkmdkaiiaaGreatDoor
