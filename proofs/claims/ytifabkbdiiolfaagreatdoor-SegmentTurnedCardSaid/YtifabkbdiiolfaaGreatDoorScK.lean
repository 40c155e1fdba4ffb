/-
  Layer column: the document's own ReadReals, from what its ReadInts gives.
-/
import Derived.Test.YtifabkbdiiolfaaGreatDoorDbK
set_option linter.unusedSimpArgs false
set_option linter.unusedVariables false
set_option maxRecDepth 8000
namespace Go.Proofs.YtifabkbdiiolfaaGreatDoor
open Go.RowKit Go.WideShapes Col
namespace Col
theorem rruns_len : ∀ (m : Nat) (q : List Nat) (xs : List Int) (r : List Nat), rruns m q = some (xs, r) → xs.length = m := by
 intro m
 induction m using Nat.strongRecOn with
 | _ m ih =>
  intro q xs r h
  rcases m with _ | m
  ·rw [rruns_zero] at h; injection h with h; injection h with h1 h2; rw [← h1]; rfl
  ·rcases hz : zP q with _ | ⟨x, r1⟩
   ·rw [rruns_no1 hz] at h; cases h
   ·rcases hu : uP m r1 with _ | ⟨k, r2⟩
    ·rw [rruns_no2 hz hu] at h; cases h
    ·have hk : k ≤ m := (uP_some hu).2
     rw [rruns_yes hz hu] at h
     rcases hr : rruns (m - k) r2 with _ | ⟨ys, r3⟩
     ·rw [hr] at h; cases h
     ·have := ih (m - k) (by omega) r2 ys r3 hr
      rw [hr] at h; injection h with h; injection h with h1 h2
      rw [← h1]; simp; omega
theorem rdDelta_len {n : Nat} {q r : List Nat} {xs : List Int} (h : rdDelta n q = some (xs, r)) : xs.length = n := by
 unfold rdDelta at h
 rcases ho : runS dstep n (0, q) with _ | ⟨ys, s⟩
 ·rw [ho] at h; cases h
 ·rw [ho] at h; injection h with h; injection h with h1 h2; rw [← h1]; exact runS_len ho
theorem rpk_len {n : Nat} {q r : List Nat} {xs : List Int} (h : rpk n q = some (xs, r)) : xs.length = n := by
 by_cases h0 : n = 0
 ·unfold rpk at h; rw [if_pos h0] at h; injection h with h; injection h with h1 h2; rw [← h1, h0]; rfl
 ·rcases hz : zP q with _ | ⟨mn, r1⟩
  ·unfold rpk at h; rw [if_neg h0, hz] at h; cases h
  ·rw [rpk_of h0 hz] at h
   rcases r1 with _ | ⟨W, r2⟩
   ·cases h
   ·by_cases hc : W ≤ 64 ∧ (n * W + 7) / 8 ≤ r2.length ∧ vlb (r2.take ((n * W + 7) / 8)) < 2 ^ (n * W)
    ·rw [rpk2_yes rfl hc] at h; injection h with h; injection h with h1 h2; rw [← h1]; simp
    ·rw [rpk2_no rfl hc] at h; cases h
theorem rI_len {q r : List Nat} {xs : List Int} (h : rI q = some (xs, r)) : xs.length ≤ 4096 := by
 rcases q with _ | ⟨way, q⟩
 ·cases h
 ·rcases hu : uP 4096 q with _ | ⟨n, s⟩
  ·rw [rI_no hu] at h; cases h
  ·have hn : n ≤ 4096 := (uP_some hu).2
   rw [rI_yes hu] at h
   unfold rW at h
   split at h
   ·rw [runS_len h]; exact hn
   ·split at h
    ·rw [rdDelta_len h]; exact hn
    ·split at h
     ·rw [rruns_len _ _ _ _ h]; exact hn
     ·split at h
      ·rw [rpk_len h]; exact hn
      ·cases h
/-- Is each of some numbers the one form of a number with a point? -/
def okF (xs : List Int) : Bool := xs.all fun x => decide (Fl.canon (u64N x) = u64N x)
theorem okF_take {xs : List Int} {k : Nat} {x : Int} (h : okF (xs.take k) = true) (hx : xs[k]? = some x) (hc : Fl.canon (u64N x) = u64N x) : okF (xs.take (k + 1)) = true := by
 rw [List.take_add_one, hx]; unfold okF at *; simp [h, hc]
theorem okF_no {xs : List Int} {k : Nat} {x : Int} (hx : xs[k]? = some x) (hc : ¬ Fl.canon (u64N x) = u64N x) : okF xs = false := by
 unfold okF
 rw [List.all_eq_false]
 exact ⟨x, List.mem_of_getElem? hx, by simpa using hc⟩
/-- Numbers with a point read: the words, and the rest. -/
def rF (q : List Nat) : Option (List Nat × List Nat) := match rI q with
 | some p => if okF p.1 then some (p.1.map u64N, p.2) else none
 | none => none
theorem rF_no {q : List Nat} (h : rI q = none) : rF q = none := by unfold rF; rw [h]
theorem rF_bad {q r : List Nat} {xs : List Int} (h : rI q = some (xs, r)) (hb : okF xs = false) : rF q = none := by unfold rF; rw [h]; simp [hb]
theorem rF_yes {q r : List Nat} {xs : List Int} (h : rI q = some (xs, r)) (hb : okF xs = true) : rF q = some (xs.map u64N, r) := by unfold rF; rw [h]; simp [hb]
end Col
/-- How a reading of numbers with a point ends. -/
def FEnds (g : Nat) (o : Option (List Nat × List Nat)) (w : World) (e : Ending) (w' : World) : Prop := match o with
 | some p => ∃ L n, e = .returned (.slice (some ⟨L, 0, none⟩) n n) ∧ n = p.1.length ∧ w.heap.size ≤ L ∧ RowF w' L p.1 ∧ RdM g p.2 w' ∧ Kept (Only g) w w'
 | none => e = .panicked [gu g] ∧ Gone w' g ∧ Kept (Only g) w w'
set_option maxHeartbeats 4000000 in
theorem readReals_some (g : Nat) (q : List Nat) (w : World) (H : Hid (RdM g q w)) (xs : List Int) (r : List Nat) (ho : Hid (rI q = some (xs, r))) (n : Nat) (hn : Hid (n = xs.length)) (hn1 : n ≤ 4096) :
  Calls Tryz.prog 171 #[.pointer (some ⟨g, 0, none⟩)] w (FEnds g (rF q) w) := by
 obtain ⟨iu, hiu, hz0, hz1, hz2⟩ := info_parts infoF64
 have hzb : iu.bytes * n ≤ 281474976710656 := by rw [hz2]; omega
 have hnm : n ≤ maxLen := by unfold maxLen; omega
 have HI := Lib.hid (readInts_any g q w H)
 have hgl := H.out.1.glt
 have HLEN : Hid ((xs.map u64N).length = n) := Lib.hid (by rw [List.length_map]; exact hn.out.symm)
 go_enter Tryz.func171, Tryz.ntmps171
 go_wp2_with (first
  | (go_at_call 167; go_loud (refine (HI.out).mono ?_; intro e w2 h8; rw [ho.out] at h8; have h8 : (∃ A n' cap, e = .returned (.slice A n' cap) ∧ OwnI w2 w.heap.size A n' cap xs) ∧ RdM g r w2 ∧ Kept (Only g) w w2 := h8; obtain ⟨⟨A, n', cap, rfl, h3⟩, h4, h5⟩ := h8; obtain rfl : n' = n := (by have e1 := h3.len; have e2 := hn.out; omega); have HOW := Lib.hid h3; have HRD := Lib.hid h4; have HK := Lib.hid h5; clear h3 h4 h5))
  | (refine wpList_make_full _ rfl (.tmp 10) (.tmp 10) 123 rfl w2.heap.size 43 iu (.float .f64 0) 1 Tryz.underlying123 hiu hz0 hz1 .i64 .i64 _ _ n' rfl rfl rfl rfl hzb hnm (Nat.le_refl _) ?_; intro w3 own hgr; have HRF := Lib.hid (rowF_zeros own); have HB3 : Hid (Below w2.heap.size w2 w3) := Lib.hid ((Below.refl _ w2).grown hgr (Nat.le_refl _) (by intro k hk; cases hk)); clear own hgr))
 obtain ⟨L, hL⟩ : ∃ L, L = w2.heap.size := ⟨_, rfl⟩
 rw [← hL] at HRF ⊢
 have hwL : w.heap.size ≤ L := by rw [hL]; exact HK.out.size
 have HRD3 : Hid (RdM g r w3) := Lib.hid (HRD.out.high (S := fun _ => False) (Kept.of_below HB3.out) fun k e => e.elim)
 have HIS3 : Hid (IsAt w3 A xs) := Lib.hid (HOW.out.isAt.keep HB3.out)
 have HAL : Hid (∀ b, A = some b → b.block ≠ L) := Lib.hid fun b e => by have := HOW.out.ltI b.block (by rw [e]; rfl); omega
 have HK3 : Hid (Kept (Only g) w w3) := Lib.hid (HK.out.trans (Kept.of_below HB3.out))
 clear hL HOW HRD HK HB3 HI
 go_loopw [14] (fun v wr => ∃ k : Nat, k ≤ n' ∧ v = .int .i64 (k : Int) ∧ RowF wr L ((xs.map u64N).take k ++ List.replicate (n' - k) 0) ∧ RdM g r wr ∧ Kept (fun j => j = L) w3 wr ∧ okF (xs.take k) = true) (fun v _ => n' - (intOf v).toNat)
 case atStart => exact ⟨0, Nat.zero_le _, rfl, by simpa using HRF.out, HRD3.out, Kept.refl _ _, by rw [List.take_zero]; rfl⟩
 case round =>
  obtain ⟨k, hk, rfl, hrow, hrd, hkp, hokk⟩ := hrel
  have HOKK := Lib.hid hokk
  clear hokk
  have HROW := Lib.hid hrow; have HRD := Lib.hid hrd; have HKL := Lib.hid hkp
  clear hrow hrd hkp HRF
  by_cases hlt : k < n'
  ·obtain ⟨x, hx⟩ : ∃ x, xs[k]? = some x := ⟨xs[k]'(by have := hn.out; omega), List.getElem?_eq_getElem _⟩
   obtain ⟨-, ga, oa, rfl, hga, hca⟩ := (HIS3.out.kept HKL.out (fun b e h => HAL.out b e h)) k x hx
   have HGA := Lib.hid hga; have HCA := Lib.hid hca
   have HNE : Hid (ga ≠ L) := Lib.hid (HAL.out _ rfl)
   obtain ⟨hu1, hu2⟩ := u64N_eq x
   have HSN := Lib.hid (un_snoc xs k x hx)
   by_cases hcan : Fl.canon (u64N x) = u64N x
   ·have HOK1 := Lib.hid (okF_take HOKK.out hx hcan)
    obtain ⟨u, hu⟩ : ∃ u, u = u64N x := ⟨_, rfl⟩
    rw [← hu] at hu1 hu2 hcan HSN
    have hOF := of_any u hu2
    rw [hcan] at hOF
    have HOF := Lib.hid hOF
    have hBI := bits_any u hu2
    rw [hcan] at hBI
    have HBI := Lib.hid hBI
    have f2 := HROW.out.fr k
    obtain ⟨u2, c2⟩ := HROW.out.at k (by rw [List.length_append, List.length_replicate, List.length_take]; have := HLEN.out; omega)
    have HSET := Lib.hid (fill_setN ((xs.map u64N).take k) n' k (by rw [List.length_take]; have := HLEN.out; omega) hlt u)
    have HAT := Lib.hid (fillN_at ((xs.map u64N).take k) n' k (by rw [List.length_take]; have := HLEN.out; omega) u)
    have s1 := run_store_flC wr ⟨L, k, none⟩ u u2 c2 f2
    have HR2 : Hid (RowF (wr.setCell ⟨L, k, none⟩ (.float .f64 u)) L ((xs.map u64N).take (k + 1) ++ List.replicate (n' - (k + 1)) 0)) := Lib.hid (by rw [HSN.out, ← HSET.out]; exact HROW.out.set k u)
    have HK2 : Hid (Kept (fun j => j = L) wr (wr.setCell ⟨L, k, none⟩ (.float .f64 u))) := Lib.hid ((Kept.refl _ _).setCell _ _ (.inl rfl))
    have HRD2 : Hid (RdM g r (wr.setCell ⟨L, k, none⟩ (.float .f64 u))) := Lib.hid (HRD.out.high HK2.out fun j hj => by have hj : j = L := hj; omega)
    clear hx hu hcan hOF hBI hga
    go_upto_region 7 with (go_at_call 193; refine (HOF.out _).mono ?_; rintro e w9 ⟨rfl, rfl⟩)
    clear s1 c2 f2 hca
    generalize wr.setCell ⟨L, k, none⟩ (.float .f64 u) = w4 at *
    have c4 : w4.cell? ⟨L, k, none⟩ = some (.float .f64 u) := HR2.out.cell k u (by rw [HSN.out]; exact HAT.out)
    have huu : ((u : Int) == (u : Int)) = true := by simp
    go_wp2_with (first
     | (go_at_call 105; refine (HBI.out _).mono ?_; rintro e w9 ⟨rfl, rfl⟩)
     | (go_at_call 80; (with_reducible refine (check_true _ _).mono ?_); rintro e w9 ⟨rfl, rfl⟩))
    go_roundw
    case rel => exact ⟨k + 1, by omega, by go_num, HR2.out, HRD2.out, HKL.out.trans HK2.out, HOK1.out⟩
    case measure => simp [intOf]; omega
   ·have HNO := Lib.hid (rF_bad ho.out (okF_no hx hcan))
    have hcl := Fl.canon_lt (u64N x) hu2
    have hcc := Fl.canon_canon (u64N x)
    obtain ⟨v, hv⟩ : ∃ v, v = u64N x := ⟨_, rfl⟩
    rw [← hv] at hu1 hu2 hcan hcl hcc
    obtain ⟨u, hu⟩ : ∃ u, u = Fl.canon v := ⟨_, rfl⟩
    rw [← hu] at hcan hcl hcc
    have hOF := of_any v hu2
    rw [← hu] at hOF
    have HOF := Lib.hid hOF
    have hBI := bits_any u hcl
    rw [hcc] at hBI
    have HBI := Lib.hid hBI
    have f2 := HROW.out.fr k
    obtain ⟨u2, c2⟩ := HROW.out.at k (by rw [List.length_append, List.length_replicate, List.length_take]; have := HLEN.out; omega)
    have HSET := Lib.hid (fill_setN ((xs.map u64N).take k) n' k (by rw [List.length_take]; have := HLEN.out; omega) hlt u)
    have HAT := Lib.hid (fillN_at ((xs.map u64N).take k) n' k (by rw [List.length_take]; have := HLEN.out; omega) u)
    have s1 := run_store_flC wr ⟨L, k, none⟩ u u2 c2 f2
    have HR2 : Hid (RowF (wr.setCell ⟨L, k, none⟩ (.float .f64 u)) L (((xs.map u64N).take k ++ [u]) ++ List.replicate (n' - (k + 1)) 0)) := Lib.hid (by rw [← HSET.out]; exact HROW.out.set k u)
    have HK2 : Hid (Kept (fun j => j = L) wr (wr.setCell ⟨L, k, none⟩ (.float .f64 u))) := Lib.hid ((Kept.refl _ _).setCell _ _ (.inl rfl))
    have HRD2 : Hid (RdM g r (wr.setCell ⟨L, k, none⟩ (.float .f64 u))) := Lib.hid (HRD.out.high HK2.out fun j hj => by have hj : j = L := hj; omega)
    clear hx hu hv hcl hcc hOF hBI hga
    go_upto_region 7 with (go_at_call 193; refine (HOF.out _).mono ?_; rintro e w9 ⟨rfl, rfl⟩)
    clear s1 c2 f2 hca
    generalize wr.setCell ⟨L, k, none⟩ (.float .f64 u) = w4 at *
    have c4 : w4.cell? ⟨L, k, none⟩ = some (.float .f64 u) := HR2.out.cell k u HAT.out
    have huu : ((u : Int) == (v : Int)) = false := by simpa using (show ¬ (u : Int) = (v : Int) by omega)
    obtain ⟨A9, C9, hRA⟩ := HRD2.out.1
    have HCF := Lib.hid (check_false g C9 A9 r w4 (Lib.hid hRA))
    clear hRA
    go_wp2_with (first
     | (go_at_call 105; refine (HBI.out _).mono ?_; rintro e w9 ⟨rfl, rfl⟩)
     | (go_at_call 80; (with_reducible refine (HCF.out).mono ?_); rintro e w9 ⟨rfl, h8, h9⟩))
    rw [HNO.out]
    exact ⟨rfl, rfl, h8, (HK3.out.trans' (HKL.out.trans HK2.out) fun j hj => .inr (by have hj : j = L := hj; omega)).trans h9⟩
  ·obtain rfl : k = n' := by omega
   go_wp2
   go_ret
   have hr := HROW.out
   rw [Nat.sub_self, List.replicate_zero, List.append_nil, List.take_of_length_le (by have := HLEN.out; omega)] at hr
   rw [rF_yes ho.out (by have := HOKK.out; rwa [List.take_of_length_le (by have := hn.out; omega)] at this)]
   exact ⟨L, k, rfl, HLEN.out.symm, hwL, hr, HRD.out, HK3.out.trans' HKL.out fun j hj => .inr (by have hj : j = L := hj; omega)⟩
theorem readReals_any (g : Nat) (q : List Nat) (w : World) (H : Hid (RdM g q w)) :
  Calls Tryz.prog 171 #[.pointer (some ⟨g, 0, none⟩)] w (FEnds g (rF q) w) := by
 rcases ho : rI q with _ | ⟨xs, r⟩
 ·have HO := Lib.hid ho
  clear ho
  have HI := Lib.hid (readInts_any g q w H)
  go_enter Tryz.func171, Tryz.ntmps171
  go_wp2_with (go_at_call 167; refine (HI.out).mono ?_; intro e w2 h8; rw [HO.out] at h8; obtain ⟨rfl, h1, h2⟩ := h8)
  rw [rF_no HO.out]
  exact ⟨rfl, rfl, h1, h2⟩
 ·exact readReals_some g q w H xs r (Lib.hid ho) xs.length (Lib.hid rfl) (rI_len ho)
end Go.Proofs.YtifabkbdiiolfaaGreatDoor

namespace Go.Proofs.YtifabkbdiiolfaaGreatDoor
open Go.RowKit Go.WideShapes Col
namespace Col
/-- Numbers with a point that are all of some bytes. -/
def rFL (q : List Nat) : Option (List Nat) := match rF q with
 | some (us, []) => some us
 | _ => none
theorem rFL_some {q us : List Nat} (h : rF q = some (us, [])) : rFL q = some us := by unfold rFL; rw [h]
theorem rFL_none {q : List Nat} (h : rF q = none) : rFL q = none := by unfold rFL; rw [h]
theorem rFL_left {q r us : List Nat} (h : rF q = some (us, r)) (hr : r ≠ []) : rFL q = none := by
 unfold rFL; rw [h]
 rcases r with _ | ⟨x, r⟩
 ·exact (hr rfl).elim
 ·rfl
end Col
/-- What the list's cell holds behind the reading. -/
def RdFA (q : List Nat) (cl B : Nat) (b : Bool) (w : World) : Prop := match b with
 | true => ∃ L n us, rFL q = some us ∧ n = us.length ∧ w.heap[cl]? = some (.cells #[.slice (some ⟨L, 0, none⟩) n n] 123 (0, 0)) ∧ RowF w L us ∧ B ≤ L
 | false => rFL q = none
theorem RdFA.keep {q : List Nat} {cl B B' g : Nat} {b : Bool} {w w' : World} (h : RdFA q cl B b w) (hk : Kept (Only g) w w') (h1 : cl ≠ g) (h2 : g < B) (hB : B' ≤ B) : RdFA q cl B' b w' := by
 cases b with
 | false => exact h
 | true =>
  obtain ⟨L, n, us, e1, e2, hrow, hrf, hl⟩ := h
  exact ⟨L, n, us, e1, e2, hk.heap hrow fun e => h1 e, hrf.keep hk (fun e => by have e : L = g := e; omega), by omega⟩
theorem rdfa_no {q : List Nat} {cl B : Nat} {b : Bool} {w : World} (h : rFL q = none) (hr : RdFA q cl B b w) : b = false := by
 rcases b with _ | _
 ·rfl
 ·obtain ⟨L, n, us, e1, -⟩ := hr
  rw [h] at e1; cases e1
theorem rdfa_yes {q us : List Nat} {cl B : Nat} {b : Bool} {w : World} (h : rFL q = some us) (hr : RdFA q cl B b w) : b = true := by
 rcases b with _ | _
 ·have hr : rFL q = none := hr
  rw [h] at hr; cases hr
 ·rfl
set_option maxHeartbeats 2000000 in
theorem listFnF_any (g bf cl : Nat) (q : List Nat) (hql : q.length ≤ 1099511627776) (w : World) (HR : Hid (Rd w g q)) (Hf : Hid (w.heap[bf]? = some (.cells #[.func (.func 171) #[] #[]] 219 (0, 0)))) (Hc : Hid (w.heap[cl]? = some (.cells #[.slice none 0 0] 123 (0, 0)))) (h1 : cl < g) (h2 : bf < g) :
  Calls Tryz.prog 192 #[.pointer (some ⟨g, 0, none⟩), .pointer (some ⟨bf, 0, none⟩), .pointer (some ⟨cl, 0, none⟩)] w (Tried g (fun k => k = cl) (RdFA q cl (g + 1)) w) := by
 have hc : w.cell? ⟨bf, 0, none⟩ = some (.func (.func 171) #[] #[]) := by rw [cell_of_row _ _ _ _ _ _ Hf.out]; rfl
 have HI := Lib.hid (readReals_any g q w (Lib.hid ⟨HR.out, hql⟩))
 have hgl := HR.out.glt
 rcases ho : rF q with _ | ⟨us, r⟩
 ·have HO := Lib.hid ho
  clear ho
  go_enter Tryz.func192, Tryz.ntmps192
  go_wp2_with (go_at_call 171; refine (HI.out).mono ?_; intro e w3 h8; rw [HO.out] at h8; obtain ⟨rfl, h1, h2⟩ := h8)
  exact ⟨rfl, h2.mono fun k hk => .inl (.inr hk), .inr ⟨rfl, h1, rFL_none HO.out⟩⟩
 ·have HO := Lib.hid ho
  clear ho
  go_enter Tryz.func192, Tryz.ntmps192
  go_wp2_with (go_at_call 171; refine (HI.out).mono ?_; intro e w3 h8; rw [HO.out] at h8; obtain ⟨L, n, rfl, hn, hL, hrf, hrd, hk⟩ := h8; have HN := Lib.hid hn; have HL := Lib.hid hL; have HRF := Lib.hid hrf; have HRD := Lib.hid hrd; have HK := Lib.hid hk; have hrow := hk.heap Hc.out (fun e => by have e : cl = g := e; omega); have c3 : w3.cell? ⟨cl, 0, none⟩ = some (.slice none 0 0) := (by rw [cell_of_row _ _ _ _ _ _ hrow]; rfl); have f3 : w3.frozen? ⟨cl, 0, none⟩ = false := row_frozen hrow 0; have HROW := Lib.hid hrow; clear hn hL hrf hrd hk hrow)
  have hk : Kept (fun k => k = cl) w3 (w3.setCell ⟨cl, 0, none⟩ (.slice (some ⟨L, 0, none⟩) n n)) := (Kept.refl _ _).setCell _ _ (.inl rfl)
  have hrow2 : (w3.setCell ⟨cl, 0, none⟩ (.slice (some ⟨L, 0, none⟩) n n)).heap[cl]? = some (.cells #[.slice (some ⟨L, 0, none⟩) n n] 123 (0, 0)) := by
   have := HROW.out; rw [World.setCell]; simp [Array.getElem?_modify, this]
  have hkk : Kept (fun k => k = cl ∨ k = g) w (w3.setCell ⟨cl, 0, none⟩ (.slice (some ⟨L, 0, none⟩) n n)) := (HK.out.mono fun k hk => .inl (.inr hk)).setCell _ _ (.inl (.inl rfl))
  have hL := HL.out
  refine bodyPost_end (results_none rfl _ _ _) rfl ⟨hkk, .inl ⟨r, rfl, HRD.out.1.high' hk (fun k hk => by have hk : k = cl := hk; omega) (fun A C h => off_slice h.bytes HROW.out), ?_⟩⟩
  by_cases hr : r = []
  ·subst hr
   exact ⟨L, n, us, rFL_some HO.out, HN.out, hrow2, HRF.out.keep hk (fun e => by have e : L = cl := e; omega), by omega⟩
  ·have : decide (r = []) = false := by simpa using hr
   rw [this]
   exact rFL_left HO.out hr
/-- How ReadReals ends. -/
def RFEnds (o : Option (List Nat)) (w : World) (e : Ending) (w' : World) : Prop := match o with
 | some us => (∃ L n, e = .returned (.tuple #[.slice (some ⟨L, 0, none⟩) n n, .int .i64 0]) ∧ n = us.length ∧ RowF w' L us) ∧ Below w.heap.size w w'
 | none => e = .returned (.tuple #[.slice none 0 0, .int .i64 3]) ∧ Below w.heap.size w w'
set_option maxHeartbeats 2000000 in
theorem readListF_any (A : Option Addr) (C : Nat) (q : List Nat) (n : Nat) (hn : Hid (n = q.length)) (hn4 : n ≤ 1099511627776) (hC : n ≤ C) (hC' : C ≤ maxLen) (w : World) (HA : Hid (ByAt w A q)) :
  Calls Tryz.prog 170 #[.slice A n C, .func (.func 171) #[] #[]] w (RFEnds (rFL q) w) := by
 obtain ⟨bf, w1, hbf, hw1, hrow1, hb1, hbf1⟩ := alloc_pt w (.func (.func 171) #[] #[]) 219
 obtain ⟨cl, w2, hcl, hw2, hrow2, hb2, hcl2⟩ := alloc_pt w1 (.slice none 0 0) 123
 have HW : Hid ((w.alloc (.cells #[.func (.func 171) #[] #[]] 219)).alloc (.cells #[.slice none 0 0] 123) = w2) := Lib.hid (by rw [hw2, hw1])
 have hsz : w1.heap.size = w.heap.size + 1 := by rw [hw1]; simp
 have HBF := Lib.hid hbf; have HCL : Hid (cl = w.heap.size + 1) := Lib.hid (by rw [hcl, hsz])
 have HB2 : Hid (Below w.heap.size w w2) := Lib.hid (below_to hb1 hb2)
 have hrf2 := (Kept.of_below (S := fun _ => False) hb2).heap hrow1 fun e => e
 have ht := try_any 192 #[] #[.pointer (some ⟨bf, 0, none⟩), .pointer (some ⟨cl, 0, none⟩)] A C q n hn hC hC' w2 (Lib.hid (HA.out.keep HB2.out)) (fun k => k = cl) (fun k hk => by have hk : k = cl := hk; omega)
  (fun g => RdFA q cl (g + 1)) (RdFA q cl w2.heap.size) (fun g b v2 v3 hg h hk => h.keep hk (by omega) (Nat.lt_succ_self _) (by omega))
  (fun g v1 hg hr hb => listFnF_any g bf cl q (by rw [← hn.out]; exact hn4) v1 (Lib.hid hr) (Lib.hid ((Kept.of_below (S := fun _ => False) hb).heap hrf2 fun e => e)) (Lib.hid ((Kept.of_below (S := fun _ => False) hb).heap hrow2 fun e => e)) (by omega) (by omega))
  (fun _ _ => by first | rfl | kernel_rfl)
 have HT := Lib.hid ht
 have HR2 := Lib.hid hrow2
 clear ht hbf hw1 hrow1 hb1 hcl hw2 hrow2 hb2 hrf2 hbf1
 go_enter Tryz.func170, Tryz.ntmps170
 go_upto_region 2 with fail
 have e1 : w.heap.size = bf := HBF.out.symm
 have e2 : w.heap.size + 1 = cl := HCL.out.symm
 have hx : ∀ (w3 : World), Kept (fun k => k = cl) w2 w3 → Below w.heap.size w w3 := fun w3 hk => HB2.out.trans (hk.below (B := w.heap.size) (by omega) fun k hk => by have hk : k = cl := hk; omega)
 have HX := Lib.hid hx
 clear hx
 rw [HW.out, e2, e1]
 clear e1 e2
 rcases ho : rFL q with _ | us
 ·have HO := Lib.hid ho
  clear ho
  go_wp2_with (go_at_call 46; (with_reducible refine (HT.out).mono ?_); rintro e w3 ⟨b, rfl, hr, hk⟩; obtain rfl := rdfa_no HO.out hr; have HB3 := Lib.hid (HX.out w3 hk); clear hr hk)
  go_ret2
  rw [HO.out]
  exact ⟨rfl, HB3.out⟩
 ·have HO := Lib.hid ho
  clear ho
  go_wp2_with (go_at_call 46; (with_reducible refine (HT.out).mono ?_); rintro e w3 ⟨b, rfl, hr, hk⟩; obtain rfl := rdfa_yes HO.out hr; have HB3 := Lib.hid (HX.out w3 hk); obtain ⟨L, n9, us9, e9, h8, hrow9, hrf9, hl9⟩ := hr; rw [HO.out] at e9; injection e9 with e9; subst e9; have HN9 := Lib.hid h8; have HRF := Lib.hid hrf9; have c9c : w3.cell? ⟨cl, 0, none⟩ = some (.slice (some ⟨L, 0, none⟩) n9 n9) := (by rw [cell_of_row _ _ _ _ _ _ hrow9]; rfl); clear hk hrow9 hrf9 h8 hl9)
  go_ret2
  rw [HO.out]
  exact ⟨⟨L, n9, rfl, HN9.out, HRF.out⟩, HB3.out⟩
set_option maxHeartbeats 2000000 in
theorem readRealsC_any (A : Option Addr) (C : Nat) (q : List Nat) (n : Nat) (hn : Hid (n = q.length)) (hn4 : n ≤ 1099511627776) (hC : n ≤ C) (hC' : C ≤ maxLen) (w : World) (HA : Hid (ByAt w A q)) :
  Calls Tryz.prog 140 #[.slice A n C] w (RFEnds (rFL q) w) := by
 have HT := Lib.hid (readListF_any A C q n hn hn4 hC hC' w HA)
 rcases ho : rFL q with _ | l
 ·have HO := Lib.hid ho
  rw [ho] at HT
  clear ho
  go_enter Tryz.func140, Tryz.ntmps140
  go_wp2_with (go_at_call 170; (with_reducible refine (HT.out).mono ?_); rintro e w3 ⟨rfl, hb⟩; have HB := Lib.hid hb; clear hb)
  go_ret2
  exact ⟨rfl, HB.out⟩
 ·have HO := Lib.hid ho
  rw [ho] at HT
  clear ho
  go_enter Tryz.func140, Tryz.ntmps140
  go_wp2_with (go_at_call 170; (with_reducible refine (HT.out).mono ?_); rintro e w3 ⟨⟨L, n9, rfl, h8, ho⟩, hb⟩; have HB := Lib.hid hb; have HOW := Lib.hid ho; have HN := Lib.hid h8; clear hb ho h8)
  go_ret2
  exact ⟨⟨L, n9, rfl, HN.out, HOW.out⟩, HB.out⟩
end Go.Proofs.YtifabkbdiiolfaaGreatDoor

namespace Go.Proofs.YtifabkbdiiolfaaGreatDoor
open Go.RowKit Go.WideShapes Col
theorem FlAt.wf {w : World} {a : Option Addr} {l : List Nat} (h : FlAt w a l) : ∀ x ∈ l, x < 18446744073709551616 := fun x hx => by
 obtain ⟨k, hk⟩ := List.getElem?_of_mem hx
 exact (h k x hk).1
theorem FlAt.nil (w : World) (a : Option Addr) : FlAt w a [] := fun k x hx => by simp at hx
theorem FlAt.at' {w w' : World} {a : Option Addr} {l : List Nat} (h : Hid (FlAt w a l)) (hb : Below w.heap.size w w') : Hid (FlAt w' a l) := h.out.keep hb
theorem FlAt.spot {w : World} {a : Option Addr} {l : List Nat} (h : FlAt w a l) (h0 : 0 < l.length) : ∃ g off, a = some ⟨g, off, none⟩ ∧ g < w.heap.size ∧ ∀ (k : Nat) (x : Nat), l[k]? = some x → w.cell? ⟨g, off + k, none⟩ = some (.float .f64 x) := by
 obtain ⟨-, g, off, rfl, hg, -⟩ := h 0 l[0] (List.getElem?_eq_getElem h0)
 refine ⟨g, off, rfl, hg, fun k x hx => ?_⟩
 obtain ⟨-, g', off', h2, -, hc⟩ := h k x hx
 cases h2
 exact hc
theorem fvs_length (l : List Nat) : (fvs l).length = l.length := List.length_map ..
theorem FlAt.of_row {w : World} {g : Nat} {cs : Array Value} {t : TypeId} {fr : Nat × Nat} (l : List Nat) (hl : ∀ x ∈ l, x < 18446744073709551616) (hrow : w.heap[g]? = some (.cells cs t fr)) (hcs : (fvs l).IsPrefix cs.toList) : FlAt w (some ⟨g, 0, none⟩) l := fun k x hx => by
 refine ⟨hl x (List.mem_of_getElem? hx), g, 0, rfl, (Array.getElem?_eq_some_iff.1 hrow).1, ?_⟩
 rw [cell_of_row w g (0 + k) cs t fr hrow, Nat.zero_add, ← Array.getElem?_toList]
 obtain ⟨r, hr⟩ := hcs
 have hk : k < (fvs l).length := by rw [fvs_length]; exact (List.getElem?_eq_some_iff.1 hx).1
 rw [← hr, List.getElem?_append_left hk]
 unfold fvs; rw [List.getElem?_map, hx]; rfl
/-- A slice of whole numbers that the call owns: its block lies from B on. -/
def OwnF (w : World) (B : Nat) (A : Option Addr) (n cap : Nat) (l : List Nat) : Prop := w.ownsRow B 43 1 (.slice A n cap) n (fvs l) ∧ ∀ x ∈ l, x < 18446744073709551616
theorem OwnF.len {w : World} {B n cap : Nat} {A : Option Addr} {l : List Nat} (h : OwnF w B A n cap l) : n = l.length := by have := h.1.1; rw [fvs_length] at this; omega
theorem OwnF.caps {w : World} {B n cap : Nat} {A : Option Addr} {l : List Nat} (h : OwnF w B A n cap l) : n ≤ cap ∧ cap ≤ maxLen := by
 rcases h.1.2 with ⟨h1, h2⟩ | ⟨g, cap', cur, h1, -, -, h2, h3, -⟩
 ·cases h1; exact ⟨Nat.le_refl _, Nat.zero_le _⟩
 ·cases h1; exact ⟨h2, h3⟩
theorem OwnF.isAt {w : World} {B n cap : Nat} {A : Option Addr} {l : List Nat} (h : OwnF w B A n cap l) : FlAt w A l := by
 rcases h.1.2 with ⟨h1, h2⟩ | ⟨g, cap', cur, h1, hb, hrow, -, -, hs, ht⟩
 ·have := h.len
  have hl : l = [] := List.eq_nil_of_length_eq_zero (by omega)
  subst hl; exact FlAt.nil _ _
 ·cases h1
  exact FlAt.of_row l h.2 hrow ⟨cur.toList.drop (n * 1), by rw [← ht, List.take_append_drop]⟩
theorem OwnF.nil (w : World) (B : Nat) : OwnF w B none 0 0 [] := ⟨w.ownsRow_nil B _ 1, fun x hx => by cases hx⟩
theorem OwnF.keep {w w' : World} {B n cap : Nat} {A : Option Addr} {l : List Nat} (h : OwnF w B A n cap l) (hb : Below w.heap.size w w') : OwnF w' B A n cap l :=
 ⟨h.1.kept (row := none) ⟨hb.os, hb.tape, hb.output, hb.size, fun k hk _ => hb.block k hk⟩ (by rcases A with _ | a <;> simp [Value.ownBlock]), h.2⟩
theorem OwnF.base {w : World} {B n cap : Nat} {A : Option Addr} {l : List Nat} (h : OwnF w B A n cap l) : ∀ k, A.map (·.block) = some k → B ≤ k := fun k hk => by
 rcases h.1.2 with ⟨h1, h2⟩ | ⟨g, cap', cur, h1, hb, _⟩
 ·cases h1; cases hk
 ·cases h1; simp at hk; omega
end Go.Proofs.YtifabkbdiiolfaaGreatDoor

namespace Go.Proofs.YtifabkbdiiolfaaGreatDoor
open Go.RowKit Go.WideShapes Col
theorem riL_inv {p : List Nat} {xs : List Int} (h : riL p = some xs) : rI p = some (xs, []) := by
 unfold riL at h
 rcases hr : rI p with _ | ⟨ys, _ | ⟨y, r⟩⟩
 ·rw [hr] at h; cases h
 ·rw [hr] at h; injection h with h; rw [h]
 ·rw [hr] at h; cases h
theorem OwnF.more {w : World} {B n cap : Nat} {A : Option Addr} {l : List Nat} {B' : Nat} (h : OwnF w B A n cap l) (hB : B' ≤ B) : OwnF w B' A n cap l := by
 refine ⟨⟨h.1.1, ?_⟩, h.2⟩
 rcases h.1.2 with h1 | ⟨g, cap', cur, h1, hb, h2⟩
 ·exact .inl h1
 ·exact .inr ⟨g, cap', cur, h1, Nat.le_trans hB hb, h2⟩
end Go.Proofs.YtifabkbdiiolfaaGreatDoor
