/-
  Layer agg: a telling read: readBits, ReadValue.
-/
import Derived.Test.YtbimfopbilcdgaaDoorAgK
import Derived.Test.YtbimfopbilcdgaaDoorCyK
set_option linter.unusedSimpArgs false
set_option linter.unusedVariables false
set_option maxRecDepth 8000
namespace Go.Proofs.YtbimfopbilcdgaaDoor
open Go.RowKit Go.WideShapes Col
theorem post_row {P : Program} {fn : Func} {R : Ending → World → Prop} {a : Act} {w : World} (p : Tmp) (ty : TypeId) (h : fn.results = #[.cell p ty]) (hd : a.defers = []) (g : Nat) (t : TypeId) (cs : Array Value) (fr : Nat × Nat) (d : TypeDesc)
    (hp : a.tmps.getD p undef = .pointer (some ⟨g, 0, none⟩)) (hg : w.heap[g]? = some (.cells cs t fr))
    (hu : P.underlying ty = some d) (hr : (match d with | .struct _ | .array _ _ => true | _ => false) = true) (hi : (P.info? ty).map (·.size) = some cs.size)
    (hR : R (.returned (.agg cs)) w) : bodyPost P fn R .ret a w := ⟨hd, _, results_cell_row h a.tmps w g t cs fr d hp hg hu hr hi, hR⟩
theorem uA : Tryd.prog.underlying 38 = some (.struct (Tryd.prog.fieldsOf 38)) := by kernel_rfl
theorem iA (a b c d e : Value) : (Tryd.prog.info? 38).map (·.size) = some (#[a, b, c, d, e] : Array Value).size := by kernel_rfl

theorem Rd.highA {w w' : World} {g : Nat} {q : List Nat} {S : Nat → Prop} (h : Rd w g q) (hk : Kept S w w') (hS : ∀ k, S k → g < k) : Rd w' g q := by
  obtain ⟨A, C, h⟩ := h
  exact ⟨A, C, h.keep hk (fun e => by have := hS g e; omega) fun a ha h0 hs => by have := h.low a ha h0; have := hS _ hs; omega⟩
theorem Rd.gltA {w : World} {g : Nat} {q : List Nat} (h : Rd w g q) : g < w.heap.size := by obtain ⟨A, C, h⟩ := h; exact h.lt
theorem run_store_flA (w : World) (a : Addr) (y : Nat) (u : Value) (hc : w.cell? a = some u) (hf : w.frozen? a = false) : (store a (.float .f64 y)).run Tryd.prog w = .ok () (w.setCell a (.float .f64 y)) := by
  rw [run_store Tryd.prog w a _ _ rfl]
  simp [stored, hc, hf]
theorem uP_ub {x : Nat} {r : List Nat} (h : x < 18446744073709551616) : uP 18446744073709551615 (ub x ++ r) = some (x, r) := by
  unfold uP
  rw [grp_ub r x 0 ⟨by omega, h⟩ (.inr rfl)]
  simp; omega
theorem uP_ubm {x m : Nat} {r : List Nat} (h : x < 18446744073709551616) (hm : x ≤ m) : uP m (ub x ++ r) = some (x, r) := by
  unfold uP
  rw [grp_ub r x 0 ⟨by omega, h⟩ (.inr rfl)]
  simp; omega
theorem uP_ubn {x m : Nat} {r : List Nat} (h : x < 18446744073709551616) (hm : m < x) : uP m (ub x ++ r) = none := by
  unfold uP
  rw [grp_ub r x 0 ⟨by omega, h⟩ (.inr rfl)]
  simp; omega
set_option maxHeartbeats 1000000 in
theorem readBits_yes (g x : Nat) (r : List Nat) (hx : x < 18446744073709551616) (hc : Hid (Fl.canon x = x)) (hql : (ub x ++ r).length ≤ 1099511627776) (w : World) (H : Hid (Rd w g (ub x ++ r))) :
    Calls Tryd.prog 69 #[.pointer (some ⟨g, 0, none⟩)] w (Yes g w (.int .u64 (x : Int)) r) := by
  have HU : Hid (uP 18446744073709551615 (ub x ++ r) = some (x, r)) := Lib.hid (uP_ub hx)
  have HUY := Lib.hid (uint_yes g 18446744073709551615 x (ub x ++ r) r HU (by omega) w H)
  have HOF : Hid (∀ w, Calls Tryd.prog 68 #[.int .u64 (x : Int)] w fun e w' => e = .returned (.float .f64 x) ∧ w = w') := Lib.hid fun w => by
    have h := of_any x hx w
    rwa [hc.out] at h
  have HBT : Hid (∀ w, Calls Tryd.prog 52 #[.float .f64 x] w fun e w' => e = .returned (.int .u64 (x : Int)) ∧ w = w') := Lib.hid fun w => by
    have h := bits_any x hx w
    rwa [hc.out] at h
  clear hql H
  go_enter Tryd.func69, Tryd.ntmps69
  go_wp2_with (first
    | (go_at_call 26; (refine (HUY.out).mono ?_); rintro e w1 hy; obtain ⟨rfl, HR1, HK1⟩ := Yes.rd hy; clear hy)
    | (go_at_call 68; (with_reducible refine (HOF.out _).mono ?_); rintro e w' ⟨rfl, rfl⟩)
    | (go_at_call 52; (with_reducible refine (HBT.out _).mono ?_); rintro e w' ⟨rfl, rfl⟩)
    | (go_at_call 47; (with_reducible refine (check_true _ _).mono ?_); rintro e w2 ⟨rfl, rfl⟩))
  go_ret
  exact ⟨rfl, HR1.out, HK1.out⟩
/-- While a telling is read: the reader, the telling so far, the result's own block. -/
structure RV (w : World) (g : Nat) (q : List Nat) (cs : List Value) (wr : World) : Prop where
  rd : Rd wr g q
  row : wr.heap[w.heap.size + 1]? = some (.cells cs.toArray 38 (0, 0))
  res : wr.heap[w.heap.size]? = some (.cells #[.int .u64 0, .float .f64 0, .bool false, .float .f64 0, .float .f64 0] 38 (0, 0))
  kept : Kept (fun k => k = g ∨ w.heap.size ≤ k) w wr
  lt : g < w.heap.size
section
variable {w wr w2 : World} {g : Nat} {q r : List Nat} {cs : List Value} {v : Value} {e : Ending}
theorem RV.read (H : RV w g q cs wr) (hr : Rd w2 g r) (hk : Kept (Only g) wr w2) : RV w g r cs w2 :=
  ⟨hr, hk.heap H.row (fun h => by have h : w.heap.size + 1 = g := h; have := H.lt; omega), hk.heap H.res (fun h => by have h : w.heap.size = g := h; have := H.lt; omega), H.kept.trans (hk.mono fun k h => .inl (.inl h)), H.lt⟩
theorem RV.set (H : RV w g q cs wr) (i : Nat) (u : Value) : RV w g q (cs.set i u) (wr.setCell ⟨w.heap.size + 1, i, none⟩ u) :=
  ⟨H.rd.highA (S := fun k => k = w.heap.size + 1) ((Kept.refl _ _).setCell _ _ (.inl rfl)) (fun k hk => by have := H.lt; omega), row_set H.row i u,
    (Below.heap_setCell _ _ _ _ (by show _ ≠ w.heap.size + 1; omega)).trans H.res, H.kept.setCell _ _ (.inl (.inr (by show w.heap.size ≤ w.heap.size + 1; omega))), H.lt⟩
theorem RV.cell (H : RV w g q cs wr) (i : Nat) (hi : i < cs.length) : wr.cell? ⟨w.heap.size + 1, i, none⟩ = some cs[i] ∧ wr.frozen? ⟨w.heap.size + 1, i, none⟩ = false :=
  ⟨row_cell H.row i hi, row_frozen H.row i⟩
end
theorem RV.start (w : World) (g : Nat) (q : List Nat) (H : Rd w g q) : RV w g q [.int .u64 0, .float .f64 0, .bool false, .float .f64 0, .float .f64 0] ((w.alloc (.cells #[.int .u64 0, .float .f64 0, .bool false, .float .f64 0, .float .f64 0] 38)).alloc (.cells #[.int .u64 0, .float .f64 0, .bool false, .float .f64 0, .float .f64 0] 38)) := by
  have hb : Kept (fun k => k = g ∨ w.heap.size ≤ k) w ((w.alloc (.cells #[.int .u64 0, .float .f64 0, .bool false, .float .f64 0, .float .f64 0] 38)).alloc (.cells #[.int .u64 0, .float .f64 0, .bool false, .float .f64 0, .float .f64 0] 38)) := ((Kept.refl _ _).alloc _).alloc _
  exact ⟨H.highA (S := fun _ => False) (((Kept.refl _ _).alloc _).alloc _) (fun _ h => h.elim), heap_alloc2_new w _ _, heap_alloc2_old w _ _, hb, H.gltA⟩
/-- What a reading of a telling ends with. -/
def TYes (g : Nat) (w : World) (t : Tel) (r : List Nat) (e : Ending) (w' : World) : Prop := e = .returned (.agg #[.int .u64 (t.c : Int), .float .f64 t.s, .bool t.o, .float .f64 t.lo, .float .f64 t.hi]) ∧ Rd w' g r ∧ Kept (fun k => k = g ∨ w.heap.size ≤ k) w w'
def telC (t : Tel) : Tel := ⟨t.c, Fl.canon t.s, t.o, Fl.canon t.lo, Fl.canon t.hi⟩

set_option maxHeartbeats 4000000 in
theorem readValue_no (g : Nat) (t : Tel) (ht : t.Ok) (hc : 1099511627776 < t.c) (w : World) (H : Hid (Rd w g (telBy t))) :
    Calls Tryd.prog 51 #[.pointer (some ⟨g, 0, none⟩)] w fun e w' => e = .panicked [gu g] ∧ Gone w' g ∧ Kept (fun k => k = g ∨ w.heap.size ≤ k) w w' := by
  have HR := Lib.hid (RV.start w g _ H.out)
  have HL := Lib.hid (telBy_len t ht)
  have HU : Hid (uP 1099511627776 (telBy t) = none) := Lib.hid (uP_ubn ht.c hc)
  go_enter Tryd.func51, Tryd.ntmps51
  go_wp2_with (go_at_call 26; (refine (uint_no g 1099511627776 (telBy t) HU (telBy t).length (Lib.hid rfl) (by have := HL.out; omega) _ (Lib.hid HR.out.rd)).mono ?_); rintro e w1 ⟨rfl, h1, h2⟩)
  exact ⟨rfl, rfl, h1, HR.out.kept.trans (h2.mono fun k h => .inl (.inl h))⟩

theorem kept_setRow (w : World) (g : Nat) (c : Array Value) : Kept (fun k => k = g) w (w.setRow g c) :=
  ⟨rfl, rfl, rfl, by show w.heap.size ≤ (w.heap.modify g _).size; simp, fun k _ hn => setRow_other w g k c hn⟩
set_option maxHeartbeats 8000000 in
theorem readValue_yes (g : Nat) (t : Tel) (ht : t.Ok) (hcm : t.c ≤ 1099511627776) (w : World) (H : Hid (Rd w g (telBy t))) :
    Calls Tryd.prog 51 #[.pointer (some ⟨g, 0, none⟩)] w (TYes g w (telC t) []) := by
  have HR := Lib.hid (RV.start w g _ H.out)
  have hL := telBy_len t ht
  obtain ⟨c, s, o, lo, hi⟩ := t
  obtain ⟨k0, k1, k2, k3⟩ := ht
  have j1 := Fl.canon_lt _ k1
  have j2 := Fl.canon_lt _ k2
  have j3 := Fl.canon_lt _ k3
  have K1 : Hid (Fl.canon (Fl.canon s) = Fl.canon s) := Lib.hid (Fl.canon_canon s)
  have K2 : Hid (Fl.canon (Fl.canon lo) = Fl.canon lo) := Lib.hid (Fl.canon_canon lo)
  have K3 : Hid (Fl.canon (Fl.canon hi) = Fl.canon hi) := Lib.hid (Fl.canon_canon hi)
  have HOF : ∀ x, x < 18446744073709551616 → Fl.canon x = x → Hid (∀ w, Calls Tryd.prog 68 #[.int .u64 (x : Int)] w fun e w' => e = .returned (.float .f64 x) ∧ w = w') := fun x hx hc => Lib.hid fun w => by
    have h := of_any x hx w
    rwa [hc] at h
  have HOF1 := HOF _ j1 K1.out
  have HOF2 := HOF _ j2 K2.out
  have HOF3 := HOF _ j3 K3.out
  clear HOF H
  cases o
  · obtain ⟨q4, hq4⟩ : ∃ q4, q4 = ub (Fl.canon hi) ++ [] := ⟨_, rfl⟩
    obtain ⟨q3, hq3⟩ : ∃ q3, q3 = ub (Fl.canon lo) ++ q4 := ⟨_, rfl⟩
    obtain ⟨q2, hq2⟩ : ∃ q2, q2 = ub 0 ++ q3 := ⟨_, rfl⟩
    obtain ⟨q1, hq1⟩ : ∃ q1, q1 = ub (Fl.canon s) ++ q2 := ⟨_, rfl⟩
    have hq0 : telBy ⟨c, s, false, lo, hi⟩ = ub c ++ q1 := by
      unfold telBy
      rw [hq1, hq2, hq3, hq4, show (if (false : Bool) = true then (1 : Nat) else 0) = 0 from rfl, List.append_nil]
    rw [hq0] at HR hL
    have HQ0 := Lib.hid hL
    rw [List.length_append] at hL
    have HQ1 : Hid ((ub (Fl.canon s) ++ q2).length ≤ 50) := Lib.hid (by rw [← hq1]; omega)
    have hL1 : q1.length ≤ 50 := by omega
    rw [hq1, List.length_append] at hL1
    have HQ2 : Hid ((ub 0 ++ q3).length ≤ 50) := Lib.hid (by rw [← hq2]; omega)
    have hL2 : q2.length ≤ 50 := by omega
    rw [hq2, List.length_append] at hL2
    have HQ3 : Hid ((ub (Fl.canon lo) ++ q4).length ≤ 50) := Lib.hid (by rw [← hq3]; omega)
    have hL3 : q3.length ≤ 50 := by omega
    rw [hq3, List.length_append] at hL3
    have HQ4 : Hid ((ub (Fl.canon hi) ++ []).length ≤ 50) := Lib.hid (by rw [← hq4]; omega)
    have HU0 : Hid (uP 1099511627776 (ub c ++ q1) = some (c, q1)) := Lib.hid (uP_ubm k0 hcm)
    have HUB : Hid (uP 1 (ub 0 ++ q3) = some (0, q3)) := Lib.hid (uP_ubm (by decide) (by decide))
    have E1 := Lib.hid hq1; have E2 := Lib.hid hq2; have E3 := Lib.hid hq3; have E4 := Lib.hid hq4
    clear hL hL1 hL2 hL3 hq0 hq1 hq2 hq3 hq4
    go_enter Tryd.func51, Tryd.ntmps51
    go_wp2_with fail
    refine (uint_yes g 1099511627776 c (ub c ++ q1) q1 HU0 (by have := HQ0.out; omega) _ (Lib.hid HR.out.rd)).mono ?_
    rintro e w1 hy
    obtain ⟨rfl, HR1, HK1⟩ := Yes.rd hy
    have HV1 := HR.out.read HR1.out HK1.out
    clear hy HR1 HK1
    have HW1 := Lib.hid HV1
    obtain ⟨c0, f0⟩ := HV1.cell 0 (by decide)
    clear HV1
    go_wp2_with fail
    have HX1 := Lib.hid (HW1.out.set 0 (.int .u64 (c : Int)))
    clear c0 f0 HW1
    generalize w1.setCell _ _ = x1 at *
    refine (readBits_yes g (Fl.canon s) q2 j1 K1 (by have := HQ1.out; omega) _ (Lib.hid (E1.out ▸ HX1.out.rd))).mono ?_
    rintro e w2 hy
    obtain ⟨rfl, HR2, HK2⟩ := Yes.rd hy
    have HW2 := Lib.hid (HX1.out.read HR2.out HK2.out)
    clear hy HR2 HK2 HX1
    obtain ⟨c1, f1⟩ := HW2.out.cell 1 (by simp)
    have s1 := run_store_flA _ _ (Fl.canon s) _ c1 f1
    go_wp2_with (go_at_call 68; (with_reducible refine (HOF1.out _).mono ?_); rintro e w' ⟨rfl, rfl⟩)
    have HX2 := Lib.hid (HW2.out.set 1 (.float .f64 (Fl.canon s)))
    clear c1 f1 s1 HW2
    generalize w2.setCell _ _ = x2 at *
    refine (uint_yes g 1 0 (ub 0 ++ q3) q3 HUB (by have := HQ2.out; omega) _ (Lib.hid (E2.out ▸ HX2.out.rd))).mono ?_
    rintro e w3 hy
    obtain ⟨rfl, HR3, HK3⟩ := Yes.rd hy
    have HW3 := Lib.hid (HX2.out.read HR3.out HK3.out)
    clear hy HR3 HK3 HX2
    obtain ⟨c2, f2⟩ := HW3.out.cell 2 (by simp)
    go_wp2_with fail
    have HX3 := Lib.hid (HW3.out.set 2 (.bool false))
    clear c2 f2 HW3
    generalize w3.setCell _ _ = x3 at *
    refine (readBits_yes g (Fl.canon lo) q4 j2 K2 (by have := HQ3.out; omega) _ (Lib.hid (E3.out ▸ HX3.out.rd))).mono ?_
    rintro e w4 hy
    obtain ⟨rfl, HR4, HK4⟩ := Yes.rd hy
    have HW4 := Lib.hid (HX3.out.read HR4.out HK4.out)
    clear hy HR4 HK4 HX3
    obtain ⟨c3, f3⟩ := HW4.out.cell 3 (by simp)
    have s3 := run_store_flA _ _ (Fl.canon lo) _ c3 f3
    go_wp2_with (go_at_call 68; (with_reducible refine (HOF2.out _).mono ?_); rintro e w' ⟨rfl, rfl⟩)
    have HX4 := Lib.hid (HW4.out.set 3 (.float .f64 (Fl.canon lo)))
    clear c3 f3 s3 HW4
    generalize w4.setCell _ _ = x4 at *
    refine (readBits_yes g (Fl.canon hi) [] j3 K3 (by have := HQ4.out; omega) _ (Lib.hid (E4.out ▸ HX4.out.rd))).mono ?_
    rintro e w5 hy
    obtain ⟨rfl, HR5, HK5⟩ := Yes.rd hy
    have HW5 := Lib.hid (HX4.out.read HR5.out HK5.out)
    clear hy HR5 HK5 HX4
    obtain ⟨c4, f4⟩ := HW5.out.cell 4 (by simp)
    have s4 := run_store_flA _ _ (Fl.canon hi) _ c4 f4
    have HX5 : Hid (RV w g [] [.int .u64 (c : Int), .float .f64 (Fl.canon s), .bool false, .float .f64 (Fl.canon lo), .float .f64 (Fl.canon hi)] (w5.setCell ⟨w.heap.size + 1, 4, none⟩ (.float .f64 (Fl.canon hi)))) := Lib.hid (HW5.out.set 4 (.float .f64 (Fl.canon hi)))
    clear HW5
    go_wp2_with (first
      | (go_at_call 68; (with_reducible refine (HOF3.out _).mono ?_); rintro e w' ⟨rfl, rfl⟩)
      | (refine wpList_load_row rfl 38 (.tmp 3) rfl (w.heap.size + 1) rfl _ #[.int .u64 (c : Int), .float .f64 (Fl.canon s), .bool false, .float .f64 (Fl.canon lo), .float .f64 (Fl.canon hi)] (0, 0) _ HX5.out.row uA rfl (iA _ _ _ _ _) ?_)
      | (refine wpList_store_row rfl 38 (.tmp 2) (.tmp 23) rfl w.heap.size #[.int .u64 (c : Int), .float .f64 (Fl.canon s), .bool false, .float .f64 (Fl.canon lo), .float .f64 (Fl.canon hi)] rfl rfl _ _ HX5.out.res (iA _ _ _ _ _) rfl (by simp [Value.oneCell']) ?_))
    have hk := HX5.out.kept
    have hrd := HX5.out.rd
    have hlt := HX5.out.lt
    have hrs := HX5.out.res
    clear HX5 c4 f4 s4
    generalize w5.setCell _ _ = x5 at *
    have hkr : Kept (fun k => k = w.heap.size) x5 (x5.setRow w.heap.size #[.int .u64 (c : Int), .float .f64 (Fl.canon s), .bool false, .float .f64 (Fl.canon lo), .float .f64 (Fl.canon hi)]) := kept_setRow x5 _ _
    exact post_row 2 38 Tryd.results51 rfl w.heap.size 38 _ (0, 0) _ rfl (setRow_heap _ _ _ _ _ _ hrs) uA rfl (iA _ _ _ _ _) ⟨rfl, hrd.highA hkr (fun k hk => by omega), hk.trans (hkr.mono fun k h => .inl (.inr (by omega)))⟩
  · obtain ⟨q4, hq4⟩ : ∃ q4, q4 = ub (Fl.canon hi) ++ [] := ⟨_, rfl⟩
    obtain ⟨q3, hq3⟩ : ∃ q3, q3 = ub (Fl.canon lo) ++ q4 := ⟨_, rfl⟩
    obtain ⟨q2, hq2⟩ : ∃ q2, q2 = ub 1 ++ q3 := ⟨_, rfl⟩
    obtain ⟨q1, hq1⟩ : ∃ q1, q1 = ub (Fl.canon s) ++ q2 := ⟨_, rfl⟩
    have hq0 : telBy ⟨c, s, true, lo, hi⟩ = ub c ++ q1 := by
      unfold telBy
      rw [hq1, hq2, hq3, hq4, show (if (true : Bool) = true then (1 : Nat) else 0) = 1 from rfl, List.append_nil]
    rw [hq0] at HR hL
    have HQ0 := Lib.hid hL
    rw [List.length_append] at hL
    have HQ1 : Hid ((ub (Fl.canon s) ++ q2).length ≤ 50) := Lib.hid (by rw [← hq1]; omega)
    have hL1 : q1.length ≤ 50 := by omega
    rw [hq1, List.length_append] at hL1
    have HQ2 : Hid ((ub 1 ++ q3).length ≤ 50) := Lib.hid (by rw [← hq2]; omega)
    have hL2 : q2.length ≤ 50 := by omega
    rw [hq2, List.length_append] at hL2
    have HQ3 : Hid ((ub (Fl.canon lo) ++ q4).length ≤ 50) := Lib.hid (by rw [← hq3]; omega)
    have hL3 : q3.length ≤ 50 := by omega
    rw [hq3, List.length_append] at hL3
    have HQ4 : Hid ((ub (Fl.canon hi) ++ []).length ≤ 50) := Lib.hid (by rw [← hq4]; omega)
    have HU0 : Hid (uP 1099511627776 (ub c ++ q1) = some (c, q1)) := Lib.hid (uP_ubm k0 hcm)
    have HUB : Hid (uP 1 (ub 1 ++ q3) = some (1, q3)) := Lib.hid (uP_ubm (by decide) (by decide))
    have E1 := Lib.hid hq1; have E2 := Lib.hid hq2; have E3 := Lib.hid hq3; have E4 := Lib.hid hq4
    clear hL hL1 hL2 hL3 hq0 hq1 hq2 hq3 hq4
    go_enter Tryd.func51, Tryd.ntmps51
    go_wp2_with fail
    refine (uint_yes g 1099511627776 c (ub c ++ q1) q1 HU0 (by have := HQ0.out; omega) _ (Lib.hid HR.out.rd)).mono ?_
    rintro e w1 hy
    obtain ⟨rfl, HR1, HK1⟩ := Yes.rd hy
    have HV1 := HR.out.read HR1.out HK1.out
    clear hy HR1 HK1
    have HW1 := Lib.hid HV1
    obtain ⟨c0, f0⟩ := HV1.cell 0 (by decide)
    clear HV1
    go_wp2_with fail
    have HX1 := Lib.hid (HW1.out.set 0 (.int .u64 (c : Int)))
    clear c0 f0 HW1
    generalize w1.setCell _ _ = x1 at *
    refine (readBits_yes g (Fl.canon s) q2 j1 K1 (by have := HQ1.out; omega) _ (Lib.hid (E1.out ▸ HX1.out.rd))).mono ?_
    rintro e w2 hy
    obtain ⟨rfl, HR2, HK2⟩ := Yes.rd hy
    have HW2 := Lib.hid (HX1.out.read HR2.out HK2.out)
    clear hy HR2 HK2 HX1
    obtain ⟨c1, f1⟩ := HW2.out.cell 1 (by simp)
    have s1 := run_store_flA _ _ (Fl.canon s) _ c1 f1
    go_wp2_with (go_at_call 68; (with_reducible refine (HOF1.out _).mono ?_); rintro e w' ⟨rfl, rfl⟩)
    have HX2 := Lib.hid (HW2.out.set 1 (.float .f64 (Fl.canon s)))
    clear c1 f1 s1 HW2
    generalize w2.setCell _ _ = x2 at *
    refine (uint_yes g 1 1 (ub 1 ++ q3) q3 HUB (by have := HQ2.out; omega) _ (Lib.hid (E2.out ▸ HX2.out.rd))).mono ?_
    rintro e w3 hy
    obtain ⟨rfl, HR3, HK3⟩ := Yes.rd hy
    have HW3 := Lib.hid (HX2.out.read HR3.out HK3.out)
    clear hy HR3 HK3 HX2
    obtain ⟨c2, f2⟩ := HW3.out.cell 2 (by simp)
    go_wp2_with fail
    have HX3 := Lib.hid (HW3.out.set 2 (.bool true))
    clear c2 f2 HW3
    generalize w3.setCell _ _ = x3 at *
    refine (readBits_yes g (Fl.canon lo) q4 j2 K2 (by have := HQ3.out; omega) _ (Lib.hid (E3.out ▸ HX3.out.rd))).mono ?_
    rintro e w4 hy
    obtain ⟨rfl, HR4, HK4⟩ := Yes.rd hy
    have HW4 := Lib.hid (HX3.out.read HR4.out HK4.out)
    clear hy HR4 HK4 HX3
    obtain ⟨c3, f3⟩ := HW4.out.cell 3 (by simp)
    have s3 := run_store_flA _ _ (Fl.canon lo) _ c3 f3
    go_wp2_with (go_at_call 68; (with_reducible refine (HOF2.out _).mono ?_); rintro e w' ⟨rfl, rfl⟩)
    have HX4 := Lib.hid (HW4.out.set 3 (.float .f64 (Fl.canon lo)))
    clear c3 f3 s3 HW4
    generalize w4.setCell _ _ = x4 at *
    refine (readBits_yes g (Fl.canon hi) [] j3 K3 (by have := HQ4.out; omega) _ (Lib.hid (E4.out ▸ HX4.out.rd))).mono ?_
    rintro e w5 hy
    obtain ⟨rfl, HR5, HK5⟩ := Yes.rd hy
    have HW5 := Lib.hid (HX4.out.read HR5.out HK5.out)
    clear hy HR5 HK5 HX4
    obtain ⟨c4, f4⟩ := HW5.out.cell 4 (by simp)
    have s4 := run_store_flA _ _ (Fl.canon hi) _ c4 f4
    have HX5 : Hid (RV w g [] [.int .u64 (c : Int), .float .f64 (Fl.canon s), .bool true, .float .f64 (Fl.canon lo), .float .f64 (Fl.canon hi)] (w5.setCell ⟨w.heap.size + 1, 4, none⟩ (.float .f64 (Fl.canon hi)))) := Lib.hid (HW5.out.set 4 (.float .f64 (Fl.canon hi)))
    clear HW5
    go_wp2_with (first
      | (go_at_call 68; (with_reducible refine (HOF3.out _).mono ?_); rintro e w' ⟨rfl, rfl⟩)
      | (refine wpList_load_row rfl 38 (.tmp 3) rfl (w.heap.size + 1) rfl _ #[.int .u64 (c : Int), .float .f64 (Fl.canon s), .bool true, .float .f64 (Fl.canon lo), .float .f64 (Fl.canon hi)] (0, 0) _ HX5.out.row uA rfl (iA _ _ _ _ _) ?_)
      | (refine wpList_store_row rfl 38 (.tmp 2) (.tmp 23) rfl w.heap.size #[.int .u64 (c : Int), .float .f64 (Fl.canon s), .bool true, .float .f64 (Fl.canon lo), .float .f64 (Fl.canon hi)] rfl rfl _ _ HX5.out.res (iA _ _ _ _ _) rfl (by simp [Value.oneCell']) ?_))
    have hk := HX5.out.kept
    have hrd := HX5.out.rd
    have hlt := HX5.out.lt
    have hrs := HX5.out.res
    clear HX5 c4 f4 s4
    generalize w5.setCell _ _ = x5 at *
    have hkr : Kept (fun k => k = w.heap.size) x5 (x5.setRow w.heap.size #[.int .u64 (c : Int), .float .f64 (Fl.canon s), .bool true, .float .f64 (Fl.canon lo), .float .f64 (Fl.canon hi)]) := kept_setRow x5 _ _
    exact post_row 2 38 Tryd.results51 rfl w.heap.size 38 _ (0, 0) _ rfl (setRow_heap _ _ _ _ _ _ hrs) uA rfl (iA _ _ _ _ _) ⟨rfl, hrd.highA hkr (fun k hk => by omega), hk.trans (hkr.mono fun k h => .inl (.inr (by omega)))⟩
end Go.Proofs.YtbimfopbilcdgaaDoor
