/-
  Layer agg: a state, a telling as bytes; the document's telling as bytes.
-/
import Derived.Test.YtbimfopbilcdgaaDoorAaK
import Derived.Test.YtbimfopbilcdgaaDoorAfK
set_option linter.unusedSimpArgs false
set_option linter.unusedVariables false
set_option maxRecDepth 8000
namespace Go.Proofs.YtbimfopbilcdgaaDoor
open Go.RowKit Go.WideShapes Col
theorem OwnS.blt {w : World} {B n cap : Nat} {A : Option Addr} {l : List Nat} (h : OwnS w B A n cap l) : ∀ k, MineK A k → k < w.heap.size := fun k hk => by
  rcases h.1.2 with ⟨h1, h3⟩ | ⟨g, cap', cur, h1, -, h2, -⟩
  · cases h1; cases hk
  · cases h1
    unfold MineK at hk
    simp at hk
    subst hk
    exact (Array.getElem?_eq_some_iff.1 h2).1
theorem putk_then {B : Nat} {w0 w w' : World} {A A1 : Option Addr} {l : List Nat} {e : Ending} (HK : Hid (Kept (MineK A) w0 w)) (HM : Hid (∀ k, MineK A1 k → MineK A k ∨ w0.heap.size ≤ k)) (h : PutK B w A1 l e w') :
    ∃ A' n cap, e = .returned (.slice A' n cap) ∧ Hid (OwnS w' B A' n cap l) ∧ Hid (Kept (MineK A) w0 w') ∧ Hid (∀ k, MineK A' k → MineK A k ∨ w0.heap.size ≤ k) ∧ n = l.length := by
  obtain ⟨A', n, cap, he, ho, hk, hm⟩ := h
  refine ⟨A', n, cap, he, ho, HK.out.trans' hk HM.out, fun k h => ?_, ho.len⟩
  rcases hm k h with h1 | h1
  · exact HM.out k h1
  · exact .inr (Nat.le_trans HK.out.size h1)
/-- A telling's bytes. -/
def telBy (t : Tel) : List Nat := ub t.c ++ (ub (Fl.canon t.s) ++ (ub (if t.o then 1 else 0) ++ (ub (Fl.canon t.lo) ++ ub (Fl.canon t.hi))))
theorem telBy_len (t : Tel) (h : t.Ok) : (telBy t).length ≤ 50 := by
  have h1 := ub10 h.c
  have h2 := ub10 (Fl.canon_lt _ h.s)
  have h3 := ub10 (n := if t.o then 1 else 0) (by split <;> omega)
  have h4 := ub10 (Fl.canon_lt _ h.lo)
  have h5 := ub10 (Fl.canon_lt _ h.hi)
  unfold telBy
  simp only [List.length_append]
  omega
/-- The cells of a telling in a block. -/
structure TelAt (w : World) (g : Nat) (c s : Nat) (o : Bool) (lo hi : Nat) : Prop where
  c0 : w.cell? ⟨g, 0, none⟩ = some (.int .u64 (c : Int))
  c1 : w.cell? ⟨g, 1, none⟩ = some (.float .f64 s)
  c2 : w.cell? ⟨g, 2, none⟩ = some (.bool o)
  c3 : w.cell? ⟨g, 3, none⟩ = some (.float .f64 lo)
  c4 : w.cell? ⟨g, 4, none⟩ = some (.float .f64 hi)
theorem TelAt.kept {S : Nat → Prop} {w w' : World} {g c s lo hi : Nat} {o : Bool} (h : TelAt w g c s o lo hi) (hk : Kept S w w') (hg : g < w.heap.size) (hn : ¬ S g) : TelAt w' g c s o lo hi :=
  ⟨(hk.cell (p := ⟨g, 0, none⟩) hg hn).trans h.c0, (hk.cell (p := ⟨g, 1, none⟩) hg hn).trans h.c1, (hk.cell (p := ⟨g, 2, none⟩) hg hn).trans h.c2, (hk.cell (p := ⟨g, 3, none⟩) hg hn).trans h.c3, (hk.cell (p := ⟨g, 4, none⟩) hg hn).trans h.c4⟩
theorem TelAt.of_row {w : World} {g c s lo hi : Nat} {o : Bool} {t : TypeId} {fr : Nat × Nat} (h : w.heap[g]? = some (.cells #[.int .u64 (c : Int), .float .f64 s, .bool o, .float .f64 lo, .float .f64 hi] t fr)) : TelAt w g c s o lo hi :=
  ⟨by rw [cell_of_row _ _ _ _ _ _ h]; rfl, by rw [cell_of_row _ _ _ _ _ _ h]; rfl, by rw [cell_of_row _ _ _ _ _ _ h]; rfl, by rw [cell_of_row _ _ _ _ _ _ h]; rfl, by rw [cell_of_row _ _ _ _ _ _ h]; rfl⟩

set_option maxHeartbeats 4000000 in
theorem layV_any (B : Nat) (A : Option Addr) (n cap : Nat) (l : List Nat) (t : Tel) (ht : t.Ok) (w : World) (H : Hid (OwnS w B A n cap l)) (hn : n ≤ 1000000) (hB : B ≤ w.heap.size) :
    Calls Tryd.prog 30 #[.slice A n cap, .agg #[.int .u64 (t.c : Int), .float .f64 t.s, .bool t.o, .float .f64 t.lo, .float .f64 t.hi]] w (PutK B w A (l ++ telBy t)) := by
  obtain ⟨c, s, o, lo, hi⟩ := t
  obtain ⟨k0, k1, k2, k3⟩ := ht
  have j1 := Fl.canon_lt _ k1
  have j2 := Fl.canon_lt _ k2
  have j3 := Fl.canon_lt _ k3
  have q0 := Lib.hid (ub10 k0); have q1 := Lib.hid (ub10 j1);  have q3 := Lib.hid (ub10 j2)
  have HL := Lib.hid H.out.len
  have HW : Hid (∀ k, MineK A k → k ≠ w.heap.size) := Lib.hid fun k hk e => by have := H.out.blt k hk; omega
  obtain ⟨w0, hw0⟩ : ∃ w0, w0 = w.alloc (.cells #[.int .u64 (c : Int), .float .f64 s, .bool o, .float .f64 lo, .float .f64 hi] 38) := ⟨_, rfl⟩
  have HB0 : Hid (Below w.heap.size w w0) := Lib.hid (by rw [hw0]; exact (Below.refl _ _).alloc (Nat.le_refl _) _)
  have HT : Hid (TelAt w0 w.heap.size c s o lo hi) := Lib.hid (by rw [hw0]; exact TelAt.of_row (heap_alloc_new' w _))
  have HSZ : Hid (w0.heap.size = w.heap.size + 1) := Lib.hid (by rw [hw0]; simp)
  have HO0 : Hid (OwnS w0 B A n cap l) := Lib.hid (H.out.keep HB0.out)
  have hB0 : B ≤ w0.heap.size := Nat.le_trans hB HB0.out.size
  have HK0 : Hid (Kept (MineK A) w0 w0) := Lib.hid (Kept.refl _ _)
  have HM0 : Hid (∀ k, MineK A k → MineK A k ∨ w0.heap.size ≤ k) := Lib.hid fun k h => .inl h
  have HTK : Hid (∀ w', Kept (MineK A) w0 w' → TelAt w' w.heap.size c s o lo hi) := Lib.hid fun w' hk => HT.out.kept hk (by have := HSZ.out; omega) (fun h => HW.out _ h rfl)
  have HZ := Lib.hid hw0
  obtain ⟨t0, t1, t2, t3, t4⟩ := HT.out
  cases o
  · have q2 := Lib.hid (ub10 (n := 0) (by decide))
    go_enter Tryd.func30, Tryd.ntmps30
    go_wp2_with fail
    rw [← HZ.out]
    refine (putU_k B A n cap (l) (c) k0 _ HO0 (by omega) hB0).mono ?_
    rintro e w1 hp
    obtain ⟨A1, n1, c1, rfl, HO1, HK1, HM1, hn1⟩ := putk_then HK0 HM0 hp
    have hn1' : n1 ≤ n + 10 := by rw [hn1]; simp only [List.length_append]; have := q0.out; have := HL.out; omega
    clear hp hn1 t0 t1 t2 t3 t4
    have hB1 : B ≤ w1.heap.size := Nat.le_trans hB0 HK1.out.size
    obtain ⟨t0, t1, t2, t3, t4⟩ := HTK.out w1 HK1.out
    go_wp2_with (go_at_call 52; (with_reducible refine (bits_any s k1 _).mono ?_); rintro e w' ⟨rfl, rfl⟩)
    refine (putU_k B A1 n1 c1 ((l) ++ ub c) (Fl.canon s) j1 _ HO1 (by omega) hB1).mono ?_
    rintro e w2 hp
    obtain ⟨A2, n2, c2, rfl, HO2, HK2, HM2, hn2⟩ := putk_then HK1 HM1 hp
    have hn2' : n2 ≤ n + 20 := by rw [hn2]; simp only [List.length_append]; have := q0.out; have := q1.out; have := HL.out; omega
    clear hp hn2 t0 t1 t2 t3 t4
    have hB2 : B ≤ w2.heap.size := Nat.le_trans hB0 HK2.out.size
    obtain ⟨t0, t1, t2, t3, t4⟩ := HTK.out w2 HK2.out
    go_wp2_with fail
    refine (putU_k B A2 n2 c2 (((l) ++ ub c) ++ ub (Fl.canon s)) (0) (by decide) _ HO2 (by omega) hB2).mono ?_
    rintro e w3 hp
    obtain ⟨A3, n3, c3, rfl, HO3, HK3, HM3, hn3⟩ := putk_then HK2 HM2 hp
    have hn3' : n3 ≤ n + 30 := by rw [hn3]; simp only [List.length_append]; have := q0.out; have := q1.out; have := q2.out; have := HL.out; omega
    clear hp hn3 t0 t1 t2 t3 t4
    have hB3 : B ≤ w3.heap.size := Nat.le_trans hB0 HK3.out.size
    obtain ⟨t0, t1, t2, t3, t4⟩ := HTK.out w3 HK3.out
    go_wp2_with (go_at_call 52; (with_reducible refine (bits_any lo k2 _).mono ?_); rintro e w' ⟨rfl, rfl⟩)
    refine (putU_k B A3 n3 c3 ((((l) ++ ub c) ++ ub (Fl.canon s)) ++ ub (0)) (Fl.canon lo) j2 _ HO3 (by omega) hB3).mono ?_
    rintro e w4 hp
    obtain ⟨A4, n4, c4, rfl, HO4, HK4, HM4, hn4⟩ := putk_then HK3 HM3 hp
    have hn4' : n4 ≤ n + 40 := by rw [hn4]; simp only [List.length_append]; have := q0.out; have := q1.out; have := q2.out; have := q3.out; have := HL.out; omega
    clear hp hn4 t0 t1 t2 t3 t4
    have hB4 : B ≤ w4.heap.size := Nat.le_trans hB0 HK4.out.size
    obtain ⟨t0, t1, t2, t3, t4⟩ := HTK.out w4 HK4.out
    go_wp2_with (go_at_call 52; (with_reducible refine (bits_any hi k3 _).mono ?_); rintro e w' ⟨rfl, rfl⟩)
    refine (putU_k B A4 n4 c4 (((((l) ++ ub c) ++ ub (Fl.canon s)) ++ ub (0)) ++ ub (Fl.canon lo)) (Fl.canon hi) j3 _ HO4 (by omega) hB4).mono ?_
    rintro e w5 hp
    obtain ⟨A5, n5, c5, rfl, HO5, HK5, HM5, hn5⟩ := putk_then HK4 HM4 hp
    clear hp hn5
    go_wp2
    go_ret
    have he : (((((l) ++ ub c) ++ ub (Fl.canon s)) ++ ub (0)) ++ ub (Fl.canon lo)) ++ ub (Fl.canon hi) = l ++ telBy ⟨c, s, false, lo, hi⟩ := by unfold telBy; simp [List.append_assoc]
    rw [he] at HO5
    exact ⟨A5, n5, c5, rfl, HO5.out, (Kept.of_below HB0.out).trans' HK5.out (fun i hi => .inl hi), fun k hk => (HM5.out k hk).imp_right fun h => Nat.le_trans HB0.out.size h⟩
  · have q2 := Lib.hid (ub10 (n := 1) (by decide))
    go_enter Tryd.func30, Tryd.ntmps30
    go_wp2_with fail
    rw [← HZ.out]
    refine (putU_k B A n cap (l) (c) k0 _ HO0 (by omega) hB0).mono ?_
    rintro e w1 hp
    obtain ⟨A1, n1, c1, rfl, HO1, HK1, HM1, hn1⟩ := putk_then HK0 HM0 hp
    have hn1' : n1 ≤ n + 10 := by rw [hn1]; simp only [List.length_append]; have := q0.out; have := HL.out; omega
    clear hp hn1 t0 t1 t2 t3 t4
    have hB1 : B ≤ w1.heap.size := Nat.le_trans hB0 HK1.out.size
    obtain ⟨t0, t1, t2, t3, t4⟩ := HTK.out w1 HK1.out
    go_wp2_with (go_at_call 52; (with_reducible refine (bits_any s k1 _).mono ?_); rintro e w' ⟨rfl, rfl⟩)
    refine (putU_k B A1 n1 c1 ((l) ++ ub c) (Fl.canon s) j1 _ HO1 (by omega) hB1).mono ?_
    rintro e w2 hp
    obtain ⟨A2, n2, c2, rfl, HO2, HK2, HM2, hn2⟩ := putk_then HK1 HM1 hp
    have hn2' : n2 ≤ n + 20 := by rw [hn2]; simp only [List.length_append]; have := q0.out; have := q1.out; have := HL.out; omega
    clear hp hn2 t0 t1 t2 t3 t4
    have hB2 : B ≤ w2.heap.size := Nat.le_trans hB0 HK2.out.size
    obtain ⟨t0, t1, t2, t3, t4⟩ := HTK.out w2 HK2.out
    go_wp2_with fail
    refine (putU_k B A2 n2 c2 (((l) ++ ub c) ++ ub (Fl.canon s)) (1) (by decide) _ HO2 (by omega) hB2).mono ?_
    rintro e w3 hp
    obtain ⟨A3, n3, c3, rfl, HO3, HK3, HM3, hn3⟩ := putk_then HK2 HM2 hp
    have hn3' : n3 ≤ n + 30 := by rw [hn3]; simp only [List.length_append]; have := q0.out; have := q1.out; have := q2.out; have := HL.out; omega
    clear hp hn3 t0 t1 t2 t3 t4
    have hB3 : B ≤ w3.heap.size := Nat.le_trans hB0 HK3.out.size
    obtain ⟨t0, t1, t2, t3, t4⟩ := HTK.out w3 HK3.out
    go_wp2_with (go_at_call 52; (with_reducible refine (bits_any lo k2 _).mono ?_); rintro e w' ⟨rfl, rfl⟩)
    refine (putU_k B A3 n3 c3 ((((l) ++ ub c) ++ ub (Fl.canon s)) ++ ub (1)) (Fl.canon lo) j2 _ HO3 (by omega) hB3).mono ?_
    rintro e w4 hp
    obtain ⟨A4, n4, c4, rfl, HO4, HK4, HM4, hn4⟩ := putk_then HK3 HM3 hp
    have hn4' : n4 ≤ n + 40 := by rw [hn4]; simp only [List.length_append]; have := q0.out; have := q1.out; have := q2.out; have := q3.out; have := HL.out; omega
    clear hp hn4 t0 t1 t2 t3 t4
    have hB4 : B ≤ w4.heap.size := Nat.le_trans hB0 HK4.out.size
    obtain ⟨t0, t1, t2, t3, t4⟩ := HTK.out w4 HK4.out
    go_wp2_with (go_at_call 52; (with_reducible refine (bits_any hi k3 _).mono ?_); rintro e w' ⟨rfl, rfl⟩)
    refine (putU_k B A4 n4 c4 (((((l) ++ ub c) ++ ub (Fl.canon s)) ++ ub (1)) ++ ub (Fl.canon lo)) (Fl.canon hi) j3 _ HO4 (by omega) hB4).mono ?_
    rintro e w5 hp
    obtain ⟨A5, n5, c5, rfl, HO5, HK5, HM5, hn5⟩ := putk_then HK4 HM4 hp
    clear hp hn5
    go_wp2
    go_ret
    have he : (((((l) ++ ub c) ++ ub (Fl.canon s)) ++ ub (1)) ++ ub (Fl.canon lo)) ++ ub (Fl.canon hi) = l ++ telBy ⟨c, s, true, lo, hi⟩ := by unfold telBy; simp [List.append_assoc]
    rw [he] at HO5
    exact ⟨A5, n5, c5, rfl, HO5.out, (Kept.of_below HB0.out).trans' HK5.out (fun i hi => .inl hi), fun k hk => (HM5.out k hk).imp_right fun h => Nat.le_trans HB0.out.size h⟩
theorem TelAt.below {B : Nat} {w w' : World} {g c s lo hi : Nat} {o : Bool} (h : TelAt w g c s o lo hi) (hk : Below B w w') (hg : g < B) : TelAt w' g c s o lo hi :=
  ⟨(hk.cell (p := ⟨g, 0, none⟩) hg).trans h.c0, (hk.cell (p := ⟨g, 1, none⟩) hg).trans h.c1, (hk.cell (p := ⟨g, 2, none⟩) hg).trans h.c2, (hk.cell (p := ⟨g, 3, none⟩) hg).trans h.c3, (hk.cell (p := ⟨g, 4, none⟩) hg).trans h.c4⟩
end Go.Proofs.YtbimfopbilcdgaaDoor
