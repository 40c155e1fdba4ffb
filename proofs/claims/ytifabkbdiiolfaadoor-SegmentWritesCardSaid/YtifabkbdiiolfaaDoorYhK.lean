/-
  Layer segment: the contract of layFoot.
-/
import Derived.Test.YtifabkbdiiolfaaDoorYgK
import Derived.Test.YtifabkbdiiolfaaDoorYbK
open List renaming getElem_toArray → qz0, getElem_cons_zero → qz1, getElem_cons_succ → qz2, setIfInBounds_toArray → qz3, set_cons_zero → qz4, set_cons_succ → qz5
set_option linter.unusedSimpArgs false
set_option linter.unusedVariables false
set_option maxRecDepth 8000
namespace Go.Proofs.YtifabkbdiiolfaaDoor
open Go.RowKit Go.WideShapes Col
/-- A key's bytes. -/
def kbS (s : ByteArray) : List Nat := nb s.data.toList
theorem kbS_wf (s : ByteArray) : WfT (kbS s) := nb_wf _
theorem kbS_strB (s : ByteArray) : strB (kbS s) = s := by
 have h := tb_nb s.data.toList
 unfold tb at h
 exact ByteArray.ext (Array.ext' h)
theorem kbS_len (s : ByteArray) : (kbS s).length = s.size := by
 unfold kbS nb; rw [List.length_map]; rfl
/-- What is told of a chunk fits its numbers. -/
structure CkOk (x : Ck) : Prop where
 rows : x.rows < 9223372036854775808
 pl : x.pl < 9223372036854775808
 oa : x.oa < 18446744073709551616
 ob : x.ob < 18446744073709551616
 ta : Wf64 x.ta
 tz : Wf64 x.tz
 ka : x.ka.size ≤ 32
 kz : x.kz.size ≤ 32
def nums (x : Ck) : List Nat := [x.rows, x.pl, x.oa, x.ob]
def ckB (x : Ck) : List Nat := nsB (nums x) ++ (ub (zz x.ta) ++ (ub (zz x.tz) ++ (txL (kbS x.ka) ++ txL (kbS x.kz))))
def cksB (l : List Ck) : List Nat := l.flatMap ckB
def footB (p : Nat) (l : List Ck) : List Nat := nsB [p, l.length] ++ cksB l
theorem nums_lt {x : Ck} (h : CkOk x) : ∀ y ∈ nums x, y < 18446744073709551616 := fun y hy => by
 have := h.rows; have := h.pl; have := h.oa; have := h.ob
 unfold nums at hy
 simp only [List.mem_cons, List.not_mem_nil, or_false] at hy
 omega
theorem nums_len {x : Ck} (h : CkOk x) : (nsB (nums x)).length ≤ 40 := nsB_len (nums_lt h)
theorem tx_len (s : ByteArray) (h : s.size ≤ 32) : (txL (kbS s)).length ≤ 42 := by
 unfold txL
 have h1 := kbS_len s
 have h2 := ub10 (show (kbS s).length < 18446744073709551616 by omega)
 rw [List.length_append]; omega
theorem ckB_len {x : Ck} (h : CkOk x) : (ckB x).length ≤ 150 := by
 have h1 := nums_len h
 have h2 := ub10 (zz_lt h.ta)
 have h3 := ub10 (zz_lt h.tz)
 have h4 := tx_len x.ka h.ka
 have h5 := tx_len x.kz h.kz
 unfold ckB
 simp only [List.length_append]; omega
theorem cksB_len {l : List Ck} (h : ∀ x ∈ l, CkOk x) : (cksB l).length ≤ 150 * l.length := by
 induction l with
 | nil => simp [cksB]
 | cons x r ih =>
  have h1 := ckB_len (h x (by simp))
  have h2 := ih fun y hy => h y (by simp [hy])
  unfold cksB at *
  rw [List.flatMap_cons, List.length_append, List.length_cons]; omega
theorem cksB_snoc (l : List Ck) (k : Nat) (x : Ck) (h : l[k]? = some x) : cksB (l.take (k + 1)) = cksB (l.take k) ++ ckB x := by
 unfold cksB; rw [List.take_add_one, h]; simp
set_option maxHeartbeats 8000000 in
theorem layFoot_any (p : Nat) (hp : p ≤ 8) (a : Option Addr) (n c : Nat) (cs : List Ck) (hn : Hid (n = cs.length)) (hn9 : n ≤ 64) (hok : Hid (∀ x ∈ cs, CkOk x)) (W : World) (HC : Hid (CkAt W a cs)) :
  Calls Tryd.prog 14 #[.int .i64 (p : Int), .slice a n c] W fun e w' => ∃ A m cap, e = .returned (.slice A m cap) ∧ OwnS w' W.heap.size A m cap (footB p cs) ∧ Below W.heap.size W w' := by
 have hwp : IntKind.u64.wrap (p : Int) = (p : Int) := by rw [IntKind.wrap_u64]; omega
 have hwn : IntKind.u64.wrap (n : Int) = (n : Int) := by rw [IntKind.wrap_u64]; omega
 have HN0 : Hid ((W.alloc (.cells #[.int .u64 (p : Int), .int .u64 (n : Int)] 31)).heap[W.heap.size]? = some (.cells (numC [p, n]).toArray 31 (0, 0))) := Lib.hid (heap_alloc_new' W _)
 have HB0 : Hid (Below W.heap.size W (W.alloc (.cells #[.int .u64 (p : Int), .int .u64 (n : Int)] 31))) := Lib.hid ((Below.refl _ _).alloc (Nat.le_refl _) _)
 have HNS : Hid (∀ x ∈ [p, n], x < 18446744073709551616) := Lib.hid fun x hx => by
  simp only [List.mem_cons, List.not_mem_nil, or_false] at hx; omega
 go_enter Tryd.func14, Tryd.ntmps14
 go_upto_region 2 with (go_at_call 38; (with_reducible refine (layNums_any W.heap.size none 0 0 [] W.heap.size 2 [p, n] (Lib.hid rfl) (by omega) HNS _ (Lib.hid (OwnS.nil _ _)) (by omega) HB0.out.size HN0).mono ?_); rintro e w1 ⟨A1, m1, cap1, rfl, ho, hk⟩; have HO1 := Lib.hid ho; have HB1 := Lib.hid (HB0.out.trans hk.below); clear ho hk)
 have HO1 : Hid (OwnS w1 W.heap.size A1 m1 cap1 (nsB [p, n] ++ cksB (cs.take 0))) := Lib.hid (by have := HO1.out; rw [List.nil_append] at this; simpa [cksB] using this)
 go_wp2_with fail
 go_loopw [5, 17] (fun q i wr => ∃ k : Nat, k ≤ n ∧ i = .int .i64 (k : Int) ∧ ∃ A m cap, q = .slice A m cap ∧ Hid (OwnS wr W.heap.size A m cap (nsB [p, n] ++ cksB (cs.take k))) ∧ Hid (Below W.heap.size W wr)) (fun _ i _ => n - (intOf i).toNat)
 case atStart => exact ⟨0, by omega, rfl, A1, m1, cap1, rfl, HO1, HB1⟩
 case round =>
  clear HO1 HB1
  obtain ⟨k, hk, rfl, A, m, cap, rfl, HO, HB⟩ := hrel
  by_cases hlt : k < n
  ·obtain ⟨x, hx⟩ : ∃ x, cs[k]? = some x := ⟨cs[k]'(by have := hn.out; omega), List.getElem?_eq_getElem _⟩
   have HXO := Lib.hid (hok.out x (List.mem_of_getElem? hx))
   obtain ⟨g, off, rfl, hg, hr⟩ := ckr (HC.out.keep HB.out) k x hx
   have HX := Lib.hid hr
   have HSN := Lib.hid (cksB_snoc cs k x hx)
   have HL0 : Hid (m ≤ 20 + 150 * k) := Lib.hid (by
    have h1 := HO.out.len
    have h2 := cksB_len (l := cs.take k) (fun y hy => hok.out y (List.mem_of_mem_take hy))
    have h3 := nsB_len HNS.out
    rw [List.length_append] at h1
    have h4 : (cs.take k).length ≤ k := by rw [List.length_take]; omega
    have h5 : [p, n].length = 2 := rfl
    omega)
   have LL : Hid ((nsB [p, n]).length + (cksB (cs.take k)).length ≤ 10000 ∧ (nsB (nums x)).length ≤ 40 ∧ (ub (zz x.ta)).length ≤ 10 ∧ (ub (zz x.tz)).length ≤ 10 ∧ (txL (kbS x.ka)).length ≤ 42 ∧ (txL (kbS x.kz)).length ≤ 42 ∧ (kbS x.ka).length ≤ 32 ∧ (kbS x.kz).length ≤ 32) := Lib.hid (by
    have h1 := HO.out.len
    rw [List.length_append] at h1
    have h2 := HL0.out
    exact ⟨by omega, nums_len HXO.out, ub10 (zz_lt HXO.out.ta), ub10 (zz_lt HXO.out.tz), tx_len _ HXO.out.ka, tx_len _ HXO.out.kz, by rw [kbS_len]; exact HXO.out.ka, by rw [kbS_len]; exact HXO.out.kz⟩)
   have XT : Hid (Hid (Wf64 x.ta) ∧ Hid (Wf64 x.tz)) := Lib.hid ⟨HXO.out.ta, HXO.out.tz⟩
   have hw1 : IntKind.u64.wrap (x.rows : Int) = (x.rows : Int) := by have := HXO.out.rows; rw [IntKind.wrap_u64]; omega
   have hw2 : IntKind.u64.wrap (x.pl : Int) = (x.pl : Int) := by have := HXO.out.pl; rw [IntKind.wrap_u64]; omega
   have HNX : Hid (∀ y ∈ nums x, y < 18446744073709551616) := Lib.hid (nums_lt HXO.out)
   obtain ⟨b7, hb7⟩ : ∃ b7, b7 = wr.heap.size := ⟨_, rfl⟩
   obtain ⟨w4, hw4⟩ : ∃ w4, w4 = (wr.alloc (.cells #[.int .i64 (x.rows : Int), .int .i64 (x.pl : Int), .int .u64 (x.oa : Int), .int .u64 (x.ob : Int), .int .i64 x.ta, .int .i64 x.tz, .string x.ka, .string x.kz] 41)).alloc (.cells #[.int .u64 (x.rows : Int), .int .u64 (x.pl : Int), .int .u64 (x.oa : Int), .int .u64 (x.ob : Int)] 31) := ⟨_, rfl⟩
   have hb4 : Below wr.heap.size wr w4 := by rw [hw4]; exact ((Below.refl _ _).alloc (Nat.le_refl _) _).alloc (by simp) _
   have HB4 := Lib.hid (below_to HB.out hb4)
   have HO4 := Lib.hid (HO.out.keep hb4)
   have R7 : w4.heap[b7]? = some (.cells #[.int .i64 (x.rows : Int), .int .i64 (x.pl : Int), .int .u64 (x.oa : Int), .int .u64 (x.ob : Int), .int .i64 x.ta, .int .i64 x.tz, .string x.ka, .string x.kz] 41 (0, 0)) := by rw [hw4, hb7]; exact heap_alloc2_old wr _ _
   have HN4 : Hid (w4.heap[wr.heap.size + 1]? = some (.cells (numC (nums x)).toArray 31 (0, 0))) := Lib.hid (by rw [hw4]; exact heap_alloc2_new wr _ _)
   have HW4 := Lib.hid hw4
   have HR7 := Lib.hid R7
   have hkn : (k : Int) < (n : Int) := by omega
   have HML := Lib.hid HO.out.len
   clear hr hx hw4 hb4 R7 hg
   go_upto_region 6 with (first
    | (refine wpList_load_mid rfl 41 (.tmp 19) rfl g (off + k * 8) rfl [.int .i64 (x.rows : Int), .int .i64 (x.pl : Int), .int .u64 (x.oa : Int), .int .u64 (x.ob : Int), .int .i64 x.ta, .int .i64 x.tz, .string x.ka, .string x.kz] _ HX.out uCk rfl (iCk x) ?_)
    | (refine wpList_store_row rfl 41 (.tmp 7) (.tmp 20) rfl wr.heap.size #[.int .i64 (x.rows : Int), .int .i64 (x.pl : Int), .int .u64 (x.oa : Int), .int .u64 (x.ob : Int), .int .i64 x.ta, .int .i64 x.tz, .string x.ka, .string x.kz] rfl rfl _ _ (heap_alloc_new' _ _) (iCkS x) (sizeCkS x) (oneCkS x) ?_; rw [World.setRow_alloc_new])
    | (go_at_call 38; rw [← HW4.out]; (with_reducible refine (layNums_any W.heap.size A m cap _ (wr.heap.size + 1) 4 (nums x) (Lib.hid rfl) (by omega) HNX _ HO4 (by have := HL0.out; omega) HB4.out.size HN4).mono ?_); rintro e w5 ⟨A5, m5, cap5, rfl, ho, hk⟩; have HO5 := Lib.hid ho; have HM5 := Lib.hid ho.len; have HB5 := Lib.hid (HB4.out.trans hk.below); have HR75 := Lib.hid (hk.rows _ _ _ _ HR7.out (by decide)); clear ho hk))
   rw [← hb7]
   clear hb7 HW4 HN4 HO4 HB4 HR7 HX
   obtain ⟨w5d, hw5⟩ : ∃ w5d, w5d = w5.drew := ⟨_, rfl⟩
   have R7 : w5d.heap[b7]? = some (.cells #[.int .i64 (x.rows : Int), .int .i64 (x.pl : Int), .int .u64 (x.oa : Int), .int .u64 (x.ob : Int), .int .i64 x.ta, .int .i64 x.tz, .string x.ka, .string x.kz] 41 (0, 0)) := by rw [hw5]; exact HR75.out
   replace HO5 : Hid (OwnS w5d W.heap.size A5 m5 cap5 _) := Lib.hid (by rw [hw5]; exact HO5.out.keep (Below.refl _ _).drew)
   replace HB5 : Hid (Below W.heap.size W w5d) := Lib.hid (by rw [hw5]; exact HB5.out.drew)
   refine wp_region_held_drew (S := fun w => w.heap[b7]? = some (.cells #[.int .i64 (x.rows : Int), .int .i64 (x.pl : Int), .int .u64 (x.oa : Int), .int .u64 (x.ob : Int), .int .i64 x.ta, .int .i64 x.tz, .string x.ka, .string x.kz] 41 (0, 0))) (by kernel_rfl) (by rw [← hw5]; exact R7) (fun hHeld => ?_)
   rw [← hw5] at hHeld ⊢
   clear hw5 HR75
   refine wpAnyH_take (i := 0) (v := .slice A5 m5 cap5) rfl (by kernel_rfl) (by kernel_rfl) (by kernel_rfl) (fun _ _ _ h => h) (Or.inl ⟨by rfl, fun w _ => by first | rfl | go_simp⟩) hHeld ?_
   try dsimp only
   try simp only [Act.put, qz0, qz1, qz2, qz3, qz4, qz5]
   refine wpAnyH_take (i := 1) (v := .pointer (some ⟨b7, 4, none⟩)) rfl (by kernel_rfl) (by kernel_rfl) (by kernel_rfl) (fun _ _ _ h => h) (Or.inl ⟨by rfl, fun w _ => by first | rfl | go_simp⟩) hHeld ?_
   try dsimp only
   try simp only [Act.put, qz0, qz1, qz2, qz3, qz4, qz5]
   refine wpAnyH_take (i := 2) (v := .int .i64 x.ta) rfl (by kernel_rfl) (by kernel_rfl) (by kernel_rfl) (fun _ _ _ h => h) (yl_i64S rfl (.tmp 35) rfl b7 4 rfl _ (fun w hw => by rw [cell_of_row _ _ _ _ _ _ hw]; rfl)) hHeld ?_
   try dsimp only
   try simp only [Act.put, qz0, qz1, qz2, qz3, qz4, qz5]
   refine wpAnyH_take (i := 4) (v := .pointer (some ⟨b7, 5, none⟩)) rfl (by kernel_rfl) (by kernel_rfl) (by kernel_rfl) (fun _ _ _ h => h) (Or.inl ⟨by rfl, fun w _ => by first | rfl | go_simp⟩) hHeld ?_
   try dsimp only
   try simp only [Act.put, qz0, qz1, qz2, qz3, qz4, qz5]
   refine wpAnyH_take (i := 5) (v := .int .i64 x.tz) rfl (by kernel_rfl) (by kernel_rfl) (by kernel_rfl) (fun _ _ _ h => h) (yl_i64S rfl (.tmp 38) rfl b7 5 rfl _ (fun w hw => by rw [cell_of_row _ _ _ _ _ _ hw]; rfl)) hHeld ?_
   try dsimp only
   try simp only [Act.put, qz0, qz1, qz2, qz3, qz4, qz5]
   refine wpAnyH_ready (rs := [3]) (by kernel_rfl) (by simp) (AllReadyH.cons rfl (fun K hK => ?_) AllReadyH.nil)
   go_simp
   refine (putI_u W.heap.size A5 m5 cap5 _ x.ta XT.out.1 _ HO5 (by have := HM5.out; simp only [List.length_append] at this; have := LL.out; omega) HB5.out.size).mono ?_
   rintro e w6 ⟨A6, m6, cap6, rfl, ho, hk⟩
   have HO6 := Lib.hid ho
   have HB6 := Lib.hid (HB5.out.trans hk.below)
   replace R7 := hk.rows _ _ _ _ R7 (by decide)
   have HM6 := Lib.hid ho.len
   clear ho hk
   refine hK.out _ _ R7 (fun hHeld => ?_)
   clear hK K
   try dsimp only
   try simp only [Act.put, qz0, qz1, qz2, qz3, qz4, qz5]
   refine wpAnyH_ready (rs := [6]) (by kernel_rfl) (by simp) (AllReadyH.cons rfl (fun K hK => ?_) AllReadyH.nil)
   go_simp
   refine (putI_u W.heap.size A6 m6 cap6 _ x.tz XT.out.2 _ HO6 (by have := HM6.out; simp only [List.length_append] at this; have := LL.out; omega) HB6.out.size).mono ?_
   rintro e w7 ⟨A7, m7, cap7, rfl, ho, hk⟩
   have HO7 := Lib.hid ho
   have HB7 := Lib.hid (HB6.out.trans hk.below)
   replace R7 := hk.rows _ _ _ _ R7 (by decide)
   have HM7 := Lib.hid ho.len
   clear ho hk
   refine hK.out _ _ R7 (fun hHeld => ?_)
   clear hK K
   try dsimp only
   try simp only [Act.put, qz0, qz1, qz2, qz3, qz4, qz5]
   refine wpAnyH_take (i := 7) (v := .slice A7 m7 cap7) rfl (by kernel_rfl) (by kernel_rfl) (by kernel_rfl) (fun _ _ _ h => h) (Or.inl ⟨by rfl, fun w _ => by first | rfl | go_simp⟩) hHeld ?_
   try dsimp only
   try simp only [Act.put, qz0, qz1, qz2, qz3, qz4, qz5]
   refine wpAnyH_done (by kernel_rfl) ?_ _
   clear hHeld
   go_upto_region 7 with fail
   obtain ⟨w7d, hw7⟩ : ∃ w7d, w7d = w7.drew := ⟨_, rfl⟩
   replace R7 : w7d.heap[b7]? = some (.cells #[.int .i64 (x.rows : Int), .int .i64 (x.pl : Int), .int .u64 (x.oa : Int), .int .u64 (x.ob : Int), .int .i64 x.ta, .int .i64 x.tz, .string x.ka, .string x.kz] 41 (0, 0)) := by rw [hw7]; exact R7
   replace HO7 : Hid (OwnS w7d W.heap.size A7 m7 cap7 _) := Lib.hid (by rw [hw7]; exact HO7.out.keep (Below.refl _ _).drew)
   replace HB7 : Hid (Below W.heap.size W w7d) := Lib.hid (by rw [hw7]; exact HB7.out.drew)
   refine wp_region_held_drew (S := fun w => w.heap[b7]? = some (.cells #[.int .i64 (x.rows : Int), .int .i64 (x.pl : Int), .int .u64 (x.oa : Int), .int .u64 (x.ob : Int), .int .i64 x.ta, .int .i64 x.tz, .string x.ka, .string x.kz] 41 (0, 0))) (by kernel_rfl) (by rw [← hw7]; exact R7) (fun hHeld => ?_)
   rw [← hw7] at hHeld ⊢
   clear hw7
   refine wpAnyH_take (i := 0) (v := .slice A7 m7 cap7) rfl (by kernel_rfl) (by kernel_rfl) (by kernel_rfl) (fun _ _ _ h => h) (Or.inl ⟨by rfl, fun w _ => by first | rfl | go_simp⟩) hHeld ?_
   try dsimp only
   try simp only [Act.put, qz0, qz1, qz2, qz3, qz4, qz5]
   refine wpAnyH_take (i := 1) (v := .pointer (some ⟨b7, 6, none⟩)) rfl (by kernel_rfl) (by kernel_rfl) (by kernel_rfl) (fun _ _ _ h => h) (Or.inl ⟨by rfl, fun w _ => by first | rfl | go_simp⟩) hHeld ?_
   try dsimp only
   try simp only [Act.put, qz0, qz1, qz2, qz3, qz4, qz5]
   refine wpAnyH_take (i := 2) (v := .string x.ka) rfl (by kernel_rfl) (by kernel_rfl) (by kernel_rfl) (fun _ _ _ h => h) (yl_strS rfl (.tmp 42) rfl b7 6 rfl _ (fun w hw => by rw [cell_of_row _ _ _ _ _ _ hw]; rfl)) hHeld ?_
   try dsimp only
   try simp only [Act.put, qz0, qz1, qz2, qz3, qz4, qz5]
   refine wpAnyH_take (i := 4) (v := .pointer (some ⟨b7, 7, none⟩)) rfl (by kernel_rfl) (by kernel_rfl) (by kernel_rfl) (fun _ _ _ h => h) (Or.inl ⟨by rfl, fun w _ => by first | rfl | go_simp⟩) hHeld ?_
   try dsimp only
   try simp only [Act.put, qz0, qz1, qz2, qz3, qz4, qz5]
   refine wpAnyH_take (i := 5) (v := .string x.kz) rfl (by kernel_rfl) (by kernel_rfl) (by kernel_rfl) (fun _ _ _ h => h) (yl_strS rfl (.tmp 45) rfl b7 7 rfl _ (fun w hw => by rw [cell_of_row _ _ _ _ _ _ hw]; rfl)) hHeld ?_
   try dsimp only
   try simp only [Act.put, qz0, qz1, qz2, qz3, qz4, qz5]
   refine wpAnyH_ready (rs := [3]) (by kernel_rfl) (by simp) (AllReadyH.cons rfl (fun K hK => ?_) AllReadyH.nil)
   go_simp
   refine (show Calls Tryd.prog 31 #[.slice A7 m7 cap7, .string x.ka] _ _ from by have h := putT_u W.heap.size A7 m7 cap7 _ (kbS x.ka) (kbS_wf _) (by have := LL.out; omega) _ HO7 (by have := HM7.out; simp only [List.length_append] at this; have := LL.out; omega) HB7.out.size; rw [kbS_strB] at h; exact h).mono ?_
   rintro e w8 ⟨A8, m8, cap8, rfl, ho, hk⟩
   have HO8 := Lib.hid ho
   have HB8 := Lib.hid (HB7.out.trans hk.below)
   replace R7 := hk.rows _ _ _ _ R7 (by decide)
   have HM8 := Lib.hid ho.len
   clear ho hk
   refine hK.out _ _ R7 (fun hHeld => ?_)
   clear hK K
   try dsimp only
   try simp only [Act.put, qz0, qz1, qz2, qz3, qz4, qz5]
   refine wpAnyH_ready (rs := [6]) (by kernel_rfl) (by simp) (AllReadyH.cons rfl (fun K hK => ?_) AllReadyH.nil)
   go_simp
   refine (show Calls Tryd.prog 31 #[.slice A8 m8 cap8, .string x.kz] _ _ from by have h := putT_u W.heap.size A8 m8 cap8 _ (kbS x.kz) (kbS_wf _) (by have := LL.out; omega) _ HO8 (by have := HM8.out; simp only [List.length_append] at this; have := LL.out; omega) HB8.out.size; rw [kbS_strB] at h; exact h).mono ?_
   rintro e w9 ⟨A9, m9, cap9, rfl, ho, hk⟩
   have HO9 := Lib.hid ho
   have HB9 := Lib.hid (HB8.out.trans hk.below)
   replace R7 := hk.rows _ _ _ _ R7 (by decide)
   have HM9 := Lib.hid ho.len
   clear ho hk
   refine hK.out _ _ R7 (fun hHeld => ?_)
   clear hK K
   try dsimp only
   try simp only [Act.put, qz0, qz1, qz2, qz3, qz4, qz5]
   refine wpAnyH_take (i := 7) (v := .slice A9 m9 cap9) rfl (by kernel_rfl) (by kernel_rfl) (by kernel_rfl) (fun _ _ _ h => h) (Or.inl ⟨by rfl, fun w _ => by first | rfl | go_simp⟩) hHeld ?_
   try dsimp only
   try simp only [Act.put, qz0, qz1, qz2, qz3, qz4, qz5]
   refine wpAnyH_done (by kernel_rfl) ?_ _
   clear hHeld
   have HOF : Hid (OwnS w9 W.heap.size A9 m9 cap9 (nsB [p, n] ++ cksB (cs.take (k + 1)))) := Lib.hid (by
    have := HO9.out
    rw [HSN.out]
    unfold ckB
    simpa [List.append_assoc] using this)
   go_wp2
   go_roundw
   case rel => exact ⟨k + 1, by omega, by go_num, A9, m9, cap9, rfl, HOF, HB9⟩
   case measure => simp [intOf]; omega
  ·obtain rfl : k = n := by omega
   have HOF : Hid (OwnS wr W.heap.size A m cap (footB p cs)) := Lib.hid (by
    have := HO.out
    rw [List.take_of_length_le (by have := hn.out; omega)] at this
    unfold footB
    rw [← hn.out]
    exact this)
   go_wp2
   go_ret
   exact ⟨A, m, cap, rfl, HOF.out, HB.out⟩
end Go.Proofs.YtifabkbdiiolfaaDoor
