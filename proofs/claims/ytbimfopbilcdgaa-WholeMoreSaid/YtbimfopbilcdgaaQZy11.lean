/-
  Layer whole: the law's config, event, log.
-/
import Derived.Test.YtbimfopbilcdgaaQZy10
import Derived.Test.YtbimfopbilcdgaaQZy1
import Derived.Test.YtbimfopbilcdgaaQZy2
set_option linter.unusedSimpArgs false
set_option linter.unusedVariables false
set_option maxRecDepth 8000
namespace Go.Proofs.Ytbimfopbilcdgaa
open Go.RowKit Go.Sort Sm

/-- What config ends with. -/
def CfEnds (w : World) (e : Ending) (w' : World) : Prop := ∃ c : Cf, c.Ok ∧ c.size ≤ 30 ∧ c.parts ≤ 3 ∧ e = .returned c.v ∧ Below w.heap.size w w'
set_option maxHeartbeats 2000000 in
theorem config_any (k s t l sk p cu : Int) (k0 : 0 ≤ k) (k1 : k < 256) (s0 : 0 ≤ s) (s1 : s < 256) (t0 : 0 ≤ t) (t1 : t < 256) (l0 : 0 ≤ l) (l1 : l < 256) (sk0 : 0 ≤ sk) (sk1 : sk < 256) (p0 : 0 ≤ p) (p1 : p < 256) (cu0 : 0 ≤ cu) (cu1 : cu < 256) (w : World) :
    Calls Try.prog 38 #[.agg #[.int .u8 k, .int .u8 s, .int .u8 t, .int .u8 l, .int .u8 sk, .int .u8 p, .int .u8 cu]] w (CfEnds w) := by
  obtain ⟨cn, hcn⟩ : ∃ n : Nat, cu % 20 = (n : Int) := ⟨(cu % 20).toNat, by omega⟩
  have HCN : Hid (cu % 20 = (cn : Int) ∧ cn < 20) := Lib.hid ⟨hcn, by omega⟩
  clear hcn
  have m1 := Int.emod_nonneg t (b := 1 + s % 30 - (1 + s % 30 + 15) / 16 + 1) (by omega)
  have m2 := Int.emod_lt_of_pos t (b := 1 + s % 30 - (1 + s % 30 + 15) / 16 + 1) (by omega)
  have hb : ∀ o1 o2 o3 : Obj, Below w.heap.size w (((w.alloc o1).alloc o2).alloc o3) := fun o1 o2 o3 => (((Below.refl _ _).alloc (Nat.le_refl _) _).alloc (by simp) _).alloc (by simp; omega) _
  have HBB := Lib.hid hb
  have hr : ∀ (o1 o3 : Obj) (cs : Array Value), (((w.alloc o1).alloc (.cells cs 64)).alloc o3).heap[w.heap.size + 1]? = some (.cells cs 64 (0, 0)) := fun o1 o3 cs => row_alloc' (zheap_new' _ _ _ (by simp)) _
  have HRR := Lib.hid hr
  clear hb hr
  by_cases hk : k % 3 = 1
  · go_enter Try.func38, Try.ntmps38
    go_wp2
    refine post_row 2 64 Try.results38 rfl (w.heap.size + 1) 64 _ (0, 0) _ rfl (HRR.out _ _ _) uCf rfl (by kernel_rfl) ⟨⟨1, 1 + s % 30, (1 + s % 30 + 15) / 16 + t % (1 + s % 30 - (1 + s % 30 + 15) / 16 + 1), l % 40 - 8, sk % 12, 1 + p % 3, cn⟩, ⟨by simp, ?_, ?_, fun h => absurd rfl h, fun _ => ?_, ?_, ?_, ?_, ?_, ?_, ?_, ?_⟩, ?_, ?_, ?_, HBB.out _ _ _⟩
    all_goals (try (simp only; have := HCN.out.2; omega))
    rw [HCN.out.1]; rfl
  · obtain ⟨kn, hkn⟩ : ∃ n : Nat, k % 3 = (n : Int) := ⟨(k % 3).toNat, by omega⟩
    have HKN : Hid (k % 3 = (kn : Int) ∧ kn < 3 ∧ kn ≠ 1) := Lib.hid ⟨hkn, by omega, by omega⟩
    clear hkn
    go_enter Try.func38, Try.ntmps38
    go_wp2
    refine post_row 2 64 Try.results38 rfl (w.heap.size + 1) 64 _ (0, 0) _ rfl (HRR.out _ _ _) uCf rfl (by kernel_rfl) ⟨⟨kn, 1 + s % 30, 0, l % 40 - 8, sk % 12, 1 + p % 3, cn⟩, ⟨?_, ?_, ?_, fun _ => rfl, fun h => absurd h HKN.out.2.2, ?_, ?_, ?_, ?_, ?_, ?_, ?_⟩, ?_, ?_, ?_, HBB.out _ _ _⟩
    all_goals (try (simp only; have := HCN.out.2; have := HKN.out.2; omega))
    rw [HCN.out.1, HKN.out.1]
/-- An event in small numbers. -/
structure Pt where
  part : Nat
  time : Nat
  key : Nat
  val : Nat
instance : Inhabited Pt := ⟨⟨0, 0, 0, 0⟩⟩
structure Pt.Ok (p : Pt) : Prop where
  part : p.part < 256
  time : p.time < 256
  key : p.key < 256
  val : p.val < 18446744073709551616

def Pt.cells (x : Pt) : List Value := [.int .u8 (x.part : Int), .int .u8 (x.time : Int), .int .u8 (x.key : Int), .float .f64 x.val]
theorem pt_len (x : Pt) : x.cells.length = 4 := rfl
theorem pt_one (x : Pt) : ∀ v ∈ x.cells, v.oneCell' = true := fun v hv => by
  simp only [Pt.cells, List.mem_cons, List.not_mem_nil, or_false] at hv
  rcases hv with rfl | rfl | rfl | rfl <;> rfl
def pts (l : List Pt) : List Value := l.flatMap Pt.cells
theorem pts_length (l : List Pt) : (pts l).length = l.length * 4 := by
  induction l with
  | nil => rfl
  | cons x r ih => unfold pts at *; rw [List.flatMap_cons, List.length_append, ih, pt_len, List.length_cons]; omega
theorem pts_one (l : List Pt) : ∀ v ∈ pts l, v.oneCell' = true := fun v hv => by
  obtain ⟨x, -, hx⟩ := List.mem_flatMap.1 hv
  exact pt_one x v hx
theorem pts_get (l : List Pt) (k j : Nat) (hj : j < 4) : (pts l)[k * 4 + j]? = (l[k]?).bind fun x => x.cells[j]? := by
  induction l generalizing k with
  | nil => simp [pts]
  | cons x r ih =>
    unfold pts at *
    rw [List.flatMap_cons]
    rcases k with _ | k
    · rw [List.getElem?_append_left (by rw [pt_len]; omega)]; simp
    · rw [List.getElem?_append_right (by rw [pt_len]; omega), pt_len, show (k + 1) * 4 + j - 4 = k * 4 + j by omega, ih]; simp
/-- A slice value that holds some of them, in a world. -/
def PtAt (w : World) (a : Option Addr) (l : List Pt) : Prop := ∀ (j : Nat) (v : Value), (pts l)[j]? = some v → ∃ g off, a = some ⟨g, off, none⟩ ∧ g < w.heap.size ∧ w.cell? ⟨g, off + j, none⟩ = some v
theorem PtAt.keep {w w' : World} {a : Option Addr} {l : List Pt} (h : PtAt w a l) (hb : Below w.heap.size w w') : PtAt w' a l := fun j v hv => by
  obtain ⟨g, off, h2, h3, h4⟩ := h j v hv
  exact ⟨g, off, h2, Nat.lt_of_lt_of_le h3 hb.size, (hb.cell (p := ⟨g, off + j, none⟩) h3).trans h4⟩
theorem PtAt.nil (w : World) (a : Option Addr) : PtAt w a [] := fun j v hv => by simp [pts] at hv
theorem infoPt : (Try.prog.info? 106).map (fun i => (i.zero, i.size, i.bytes)) = some (some (.agg #[.int .u8 0, .int .u8 0, .int .u8 0, .float .f64 0]), 4, 16) := by kernel_rfl
/-- .. that a call owns. -/
def OwnPt (w : World) (B : Nat) (A : Option Addr) (n cap : Nat) (l : List Pt) : Prop := w.ownsRow B 106 4 (.slice A n cap) n (pts l)
theorem pt_roslice {w : World} {B n : Nat} {v : Value} {xs : List Value} (h : w.ownsRow B 106 4 v n xs) : ∃ A cap, v = .slice A n cap ∧ n ≤ cap ∧ cap ≤ maxLen ∧ (A = none → cap = 0) := by
  rcases h.2 with ⟨e0, e1⟩ | ⟨g, cap', cur, e0, -, -, h1, h2, -⟩
  · exact ⟨none, 0, by rw [e0, e1], by omega, Nat.zero_le _, fun _ => rfl⟩
  · exact ⟨_, _, e0, h1, h2, fun h => by cases h⟩
theorem pt_robase {w : World} {B n cap : Nat} {A : Option Addr} {l : List Pt} (h : OwnPt w B A n cap l) : ∀ k, (Value.slice A n cap).ownBlock = some k → B ≤ k := by
  intro k hk
  rcases h.2 with ⟨e0, e1⟩ | ⟨g, cap', cur, e0, hb, -⟩
  · rw [e0] at hk; cases hk
  · rw [e0] at hk; cases hk; exact hb
theorem pt_roaddr {w : World} {B n cap : Nat} {A : Option Addr} {l : List Pt} (h : OwnPt w B A n cap l) : A = none ∨ ∃ g, A = some ⟨g, 0, none⟩ := by
  rcases h.2 with ⟨e0, e1⟩ | ⟨g, cap', cur, e0, -⟩
  · injection e0 with e0; exact .inl e0
  · injection e0 with e0; exact .inr ⟨g, e0⟩
theorem OwnPt.len {w : World} {B n cap : Nat} {A : Option Addr} {l : List Pt} (h : OwnPt w B A n cap l) : n = l.length := by have := h.1; rw [pts_length] at this; omega
theorem OwnPt.nil (w : World) (B : Nat) : OwnPt w B none 0 0 [] := World.ownsRow_nil _ _ _ 4
theorem OwnPt.lt {w : World} {B n cap : Nat} {A : Option Addr} {l : List Pt} (h : OwnPt w B A n cap l) (g off : Nat) (hA : A = some ⟨g, off, none⟩) : g < w.heap.size ∧ B ≤ g ∧ off = 0 := by
  subst hA
  rcases h.2 with ⟨e0, e1⟩ | ⟨g', cap', cur, e0, hb, hg, -⟩
  · cases e0
  · cases e0; exact ⟨(Array.getElem?_eq_some_iff.1 hg).1, hb, rfl⟩
theorem pts_take (l : List Pt) (k j : Nat) (v : Value) (h : (pts (l.take k))[j]? = some v) : (pts l)[j]? = some v := by
  have e : pts l = pts (l.take k) ++ pts (l.drop k) := by unfold pts; rw [← List.flatMap_append, List.take_append_drop]
  rw [e, List.getElem?_append_left (List.getElem?_eq_some_iff.1 h).1, h]
theorem pts_drop (l : List Pt) (k : Nat) (hk : k ≤ l.length) (j : Nat) : (pts (l.drop k))[j]? = (pts l)[k * 4 + j]? := by
  have e : pts l = pts (l.take k) ++ pts (l.drop k) := by unfold pts; rw [← List.flatMap_append, List.take_append_drop]
  have hl : (pts (l.take k)).length = k * 4 := by rw [pts_length, List.length_take, Nat.min_eq_left hk]
  rw [e, List.getElem?_append_right (by omega), hl, Nat.add_sub_cancel_left]
theorem OwnPt.at' {w : World} {B n cap : Nat} {A : Option Addr} {l : List Pt} (h : OwnPt w B A n cap l) : PtAt w A l := fun j v hv => by
  have hjl := (List.getElem?_eq_some_iff.1 hv).1
  rcases h.2 with ⟨e0, e1⟩ | ⟨g, cap', cur, e0, hb, hg, hn, hm, hs, ht⟩
  · have := h.1; rw [e1, Nat.zero_mul] at this; omega
  · injection e0 with a1 a2 a3
    subst a1
    refine ⟨g, 0, rfl, (Array.getElem?_eq_some_iff.1 hg).1, ?_⟩
    rw [cell_of_row _ _ _ _ _ _ hg, Nat.zero_add, ← Array.getElem?_toList]
    have := h.1
    rw [← ht, List.getElem?_take] at hv
    rw [if_pos (by omega)] at hv
    exact hv
theorem ptr {w : World} {A : Option Addr} {l : List Pt} (h : PtAt w A l) (i : Nat) (x : Pt) (hx : l[i]? = some x) : ∃ g off, A = some ⟨g, off, none⟩ ∧ g < w.heap.size ∧ w.rangeAt g (off + i * 4) x.cells := by
  have h0 : (pts l)[i * 4 + 0]? = x.cells[0]? := by rw [pts_get l i 0 (by decide), hx]; rfl
  obtain ⟨g, off, e, hg, -⟩ := h (i * 4 + 0) (.int .u8 (x.part : Int)) (by rw [h0]; rfl)
  refine ⟨g, off, e, hg, fun j v hv => ?_⟩
  have hj : j < 4 := (List.getElem?_eq_some_iff.1 hv).1
  have h1 : (pts l)[i * 4 + j]? = some v := by rw [pts_get l i j hj, hx]; exact hv
  obtain ⟨g', off', e', -, hc⟩ := h _ _ h1
  rw [e] at e'; injection e' with e'; injection e' with b1 b2; subst b1; subst b2
  rw [Nat.add_assoc]; exact hc
theorem ptkeep {w w' : World} {g o : Nat} {x : Pt} (h : w.rangeAt g o x.cells) (hg : g < w.heap.size) (hb : Below w.heap.size w w') : w'.rangeAt g o x.cells := fun j v hv => (hb.cell (p := ⟨g, o + j, none⟩) hg).trans (h j v hv)
theorem OwnPt.less {w : World} {B B' n cap : Nat} {A : Option Addr} {l : List Pt} (h : OwnPt w B A n cap l) (hB : B' ≤ B) : OwnPt w B' A n cap l := by
  refine ⟨h.1, ?_⟩
  rcases h.2 with h1 | ⟨g, cap', cur, h1, hb, h2⟩
  · exact .inl h1
  · exact .inr ⟨g, cap', cur, h1, Nat.le_trans hB hb, h2⟩
theorem OwnPt.below {w w' : World} {B B' n cap : Nat} {A : Option Addr} {l : List Pt} (h : OwnPt w B A n cap l) (hb : Below B' w w') (hA : ∀ g off, A = some ⟨g, off, none⟩ → g < B') : OwnPt w' B A n cap l := by
  refine ⟨h.1, ?_⟩
  rcases h.2 with h1 | ⟨g, cap', cur, h1, hb1, h2, h3⟩
  · exact .inl h1
  · injection h1 with a1 a2 a3
    subst a1; subst a3
    exact .inr ⟨g, cap, cur, rfl, hb1, (hb.block g (hA g 0 rfl)).trans h2, h3⟩
theorem OwnPt.same {w w' : World} {B n cap : Nat} {A : Option Addr} {l : List Pt} (h : OwnPt w B A n cap l) (hA : ∀ g off, A = some ⟨g, off, none⟩ → w'.heap[g]? = w.heap[g]?) : OwnPt w' B A n cap l := by
  refine ⟨h.1, ?_⟩
  rcases h.2 with h1 | ⟨g, cap', cur, h1, hb1, h2, h3⟩
  · exact .inl h1
  · injection h1 with a1 a2 a3
    subst a1; subst a3
    exact .inr ⟨g, cap, cur, rfl, hb1, (hA g 0 rfl).trans h2, h3⟩
theorem ptAt_new (w : World) (l : List Pt) (cs : Array Value) (hcs : cs.toList = pts l) (t : TypeId) : PtAt (w.alloc (.cells cs t)) (some ⟨w.heap.size, 0, none⟩) l := fun j v hv => by
  refine ⟨w.heap.size, 0, rfl, by simp, ?_⟩
  rw [Nat.zero_add, cell_of_row _ _ _ _ _ _ (heap_new w _), ← Array.getElem?_toList, hcs]; exact hv
theorem ptcut_from (a : Option Addr) (len cap k : Nat) (hk : k ≤ len) (hc : len ≤ cap) (hnil : a = none → cap = 0) :
    ∃ A C, (∀ w, (Instr.slice 61 (.slice a len cap) (some (.int .i64 (k : Int))) none none).run Try.prog w = .ok (.slice A (len - k) C) w) ∧ (A = none → C = 0) ∧ len - k ≤ C ∧ ∀ w l, len = l.length → PtAt w a l → PtAt w A (l.drop k) := by
  refine ⟨if cap = k then a else a.map (·.add (k * 4)), cap - k, fun w => ?_, fun h => ?_, by omega, fun w l hl h j x hx => ?_⟩
  · rw [run_slice_l w 61 a len cap Try.underlying61 .i64 (k : Int) (by omega) (by omega)]
    rw [show (Go.sizeOf (Try.prog.elem 61)).run Try.prog w = .ok 4 w from by kernel_rfl]
    simp [Result.andThen, sliced]
  · split at h
    · omega
    · rcases a with _ | a
      · have := hnil rfl; omega
      · cases h
  · have hkl : k < l.length := by
      have := (List.getElem?_eq_some_iff.1 hx).1
      rw [pts_length, List.length_drop] at this; omega
    rw [pts_drop l k (by omega)] at hx
    obtain ⟨g, off, rfl, hg, hcell⟩ := h _ _ hx
    rw [if_neg (by omega)]
    exact ⟨g, off + k * 4, by simp [Addr.add_lit], hg, by rw [Nat.add_assoc]; exact hcell⟩
theorem ptcut_to (a : Option Addr) (len cap k : Nat) (hk : k ≤ len) (hc : len ≤ cap) (hnil : a = none → cap = 0) :
    ∃ A, (∀ w, (Instr.slice 61 (.slice a len cap) none (some (.int .i64 (k : Int))) none).run Try.prog w = .ok (.slice A k cap) w) ∧ (A = none → cap = 0) ∧ ∀ w l, len = l.length → PtAt w a l → PtAt w A (l.take k) := by
  refine ⟨if cap = 0 then a else a.map (·.add 0), fun w => ?_, fun h => ?_, fun w l hl h j x hx => ?_⟩
  · rw [run_slice_h w 61 a len cap Try.underlying61 .i64 (k : Int) (by omega) (by omega)]
    rw [show (Go.sizeOf (Try.prog.elem 61)).run Try.prog w = .ok 4 w from by kernel_rfl]
    simp [Result.andThen, sliced]
  · split at h
    · omega
    · rcases a with _ | a
      · have := hnil rfl; omega
      · cases h
  · obtain ⟨g, off, rfl, hg, hcell⟩ := h _ _ (pts_take l k j x hx)
    exact ⟨g, off, by simp [Addr.add_lit], hg, hcell⟩

def keyN : Nat → ByteArray
  | 0 => { data := #[97] }
  | 1 => { data := #[98] }
  | 2 => { data := #[] }
  | _ => { data := #[97, 32, 98] }
/-- The event at a place of the log. -/
def evPt (c : Cf) (p : Pt) (i : Nat) : Ev := ⟨i, (p.part : Int) % c.parts, (p.time : Int) - 60, keyN (p.key % 4), p.val⟩
theorem oneEvZ (a b c d e : Value) (h : ∀ v ∈ [a, b, c, d, e], v.oneCell' = true) : (#[a, b, c, d, e] : Array Value).all (·.oneCell') = true := all_oneCell_toArray h
set_option maxHeartbeats 2000000 in
theorem event_any (p : Pt) (hp : p.Ok) (c : Cf) (h : c.Ok) (i : Nat) (hi : i ≤ 100000) (W : World) :
    Calls Try.prog 52 #[.agg #[.int .u8 (p.part : Int), .int .u8 (p.time : Int), .int .u8 (p.key : Int), .float .f64 p.val], c.v, .int .i64 i] W fun e w' => e = .returned (.agg #[.int .u64 ((evPt c p i).off : Int), .int .i64 (evPt c p i).part, .int .i64 (evPt c p i).time, .string (evPt c p i).key, .float .f64 (evPt c p i).val]) ∧ Below W.heap.size W w' := by
  have q1 := h.parts1
  have q2 := h.parts2
  obtain ⟨ka, ti, ky, va⟩ := p
  have r1 := hp.part
  have r2 := hp.time
  have r3 := hp.key
  simp only at r1 r2 r3
  unfold evPt
  simp only
  have n1 := Int.emod_nonneg (ka : Int) (b := c.parts) (by omega)
  have n2 := Int.emod_lt_of_pos (ka : Int) (b := c.parts) (by omega)
  have hwk : IntKind.i64.wrap (ka : Int) = (ka : Int) := IntWalk.i64_in _ (by omega)
  have hwt : IntKind.i64.wrap (ti : Int) = (ti : Int) := IntWalk.i64_in _ (by omega)
  have hws : IntKind.i64.wrap ((ti : Int) - 60) = (ti : Int) - 60 := IntWalk.i64_in _ (by omega)
  have hcp : ¬ c.parts = 0 := by omega
  have htm : (ka : Int).tmod c.parts = (ka : Int) % c.parts := IntWalk.rem_in _ _ (by omega)
  have hkt : (ky : Int).tmod 4 = (ky : Int) % 4 := IntWalk.rem_in _ _ (by omega)
  have hwi : IntKind.u64.wrap (i : Int) = (i : Int) := IntWalk.u64_in _ (by omega)
  have hk : ky % 4 = 0 ∨ ky % 4 = 1 ∨ ky % 4 = 2 ∨ ky % 4 = 3 := by omega
  obtain ⟨w1, hw1⟩ : ∃ w1, w1 = (((W.alloc (.cells #[.int .u8 (ka : Int), .int .u8 (ti : Int), .int .u8 (ky : Int), .float .f64 va] 106)).alloc (.cells #[.int .u8 (c.kind : Int), .int .i64 c.size, .int .i64 c.step, .int .i64 c.late, .int .i64 c.skew, .int .i64 c.parts, .int .u64 (c.cut : Int)] 64)).alloc (.cells #[.int .u64 0, .int .i64 0, .int .i64 0, .string { data := #[] }, .float .f64 0] 76)).alloc (.cells #[.string { data := #[97] }, .string { data := #[98] }, .string { data := #[] }, .string { data := #[97, 32, 98] }] 9) := ⟨_, rfl⟩
  have HB1 : Hid (Below W.heap.size W w1) := Lib.hid (by rw [hw1]; exact ((((Below.refl _ _).alloc (Nat.le_refl _) _).alloc (by simp) _).alloc (by simp; omega) _).alloc (by simp; omega) _)
  have HP1 : Hid (w1.heap[W.heap.size]? = some (.cells #[.int .u8 (ka : Int), .int .u8 (ti : Int), .int .u8 (ky : Int), .float .f64 va] 106 (0, 0))) := Lib.hid (by rw [hw1]; exact row_alloc' (row_alloc' (row_alloc' (heap_new W _) _) _) _)
  have HC1 : Hid (w1.heap[W.heap.size + 1]? = some (.cells #[.int .u8 (c.kind : Int), .int .i64 c.size, .int .i64 c.step, .int .i64 c.late, .int .i64 c.skew, .int .i64 c.parts, .int .u64 (c.cut : Int)] 64 (0, 0))) := Lib.hid (by rw [hw1]; exact row_alloc' (row_alloc' (zheap_new' _ _ _ (by simp)) _) _)
  have HE1 : Hid (w1.heap[W.heap.size + 1 + 1]? = some (.cells #[.int .u64 0, .int .i64 0, .int .i64 0, .string { data := #[] }, .float .f64 0] 76 (0, 0))) := Lib.hid (by rw [hw1]; exact row_alloc' (zheap_new' _ _ _ (by simp)) _)
  have HK1 : Hid (w1.heap[W.heap.size + 1 + 1 + 1]? = some (.cells #[.string { data := #[97] }, .string { data := #[98] }, .string { data := #[] }, .string { data := #[97, 32, 98] }] 9 (0, 0))) := Lib.hid (by rw [hw1]; exact zheap_new' _ _ _ (by simp))
  have HW1 := Lib.hid hw1
  clear hw1 hp
  rcases hk with hk | hk | hk | hk
  · have hko : (ky : Int) % 4 = 0 := by omega
    rw [hk]
    clear hk
    go_enter Try.func52, Try.ntmps52
    go_wp2
    have hww := HW1.out
    rw [← hww]
    clear hww
    refine wp_region_held_drew (S := fun w' => w'.heap[W.heap.size]? = some (.cells #[.int .u8 (ka : Int), .int .u8 (ti : Int), .int .u8 (ky : Int), .float .f64 va] 106 (0, 0)) ∧ w'.heap[W.heap.size + 1]? = some (.cells #[.int .u8 (c.kind : Int), .int .i64 c.size, .int .i64 c.step, .int .i64 c.late, .int .i64 c.skew, .int .i64 c.parts, .int .u64 (c.cut : Int)] 64 (0, 0)) ∧ w'.heap[W.heap.size + 1 + 1 + 1]? = some (.cells #[.string { data := #[97] }, .string { data := #[98] }, .string { data := #[] }, .string { data := #[97, 32, 98] }] 9 (0, 0))) (by kernel_rfl) ⟨HP1.out, HC1.out, HK1.out⟩ (fun hHeld => ?_)
    have HR : w1.drew.heap[W.heap.size + 1 + 1]? = some (.cells #[.int .u64 0, .int .i64 0, .int .i64 0, .string { data := #[] }, .float .f64 0] 76 (0, 0)) := HE1.out
    refine wpAnyH_take (i := 0) (v := .int .i64 (i : Int)) rfl (by kernel_rfl) (by kernel_rfl) (by kernel_rfl) (fun _ _ _ h => h) (Or.inl ⟨by rfl, fun _ _ => rfl⟩) hHeld ?_
    try dsimp only
    try simp only [Act.put, List.getElem_toArray, List.getElem_cons_zero, List.getElem_cons_succ, List.setIfInBounds_toArray, List.set_cons_zero, List.set_cons_succ]
    refine wpAnyH_take (i := 1) (v := .int .u64 (i : Int)) rfl (by kernel_rfl) (by kernel_rfl) (by kernel_rfl) (fun _ _ _ h => h) (Or.inl ⟨by rfl, fun w _ => by go_simp⟩) hHeld ?_
    try dsimp only
    try simp only [Act.put, List.getElem_toArray, List.getElem_cons_zero, List.getElem_cons_succ, List.setIfInBounds_toArray, List.set_cons_zero, List.set_cons_succ]
    refine wpAnyH_take (i := 2) (v := .pointer (some ⟨W.heap.size, 0, none⟩)) rfl (by kernel_rfl) (by kernel_rfl) (by kernel_rfl) (fun _ _ _ h => h) (Or.inl ⟨by rfl, fun w _ => by go_simp⟩) hHeld ?_
    try dsimp only
    try simp only [Act.put, List.getElem_toArray, List.getElem_cons_zero, List.getElem_cons_succ, List.setIfInBounds_toArray, List.set_cons_zero, List.set_cons_succ]
    refine wpAnyH_take (i := 3) (v := .int .u8 (ka : Int)) rfl (by kernel_rfl) (by kernel_rfl) (by kernel_rfl) (fun _ _ _ h => h) (Or.inl ⟨by rfl, fun w hw => by have hr9 : w.rangeAt W.heap.size (0) [.int .u8 (ka : Int), .int .u8 (ti : Int), .int .u8 (ky : Int), .float .f64 va] := (zrow hw.1); have hc : w.cell? ⟨W.heap.size, 0, none⟩ = some (.int .u8 (ka : Int)) := (by have h9 := hr9 0 _ rfl; rw [Nat.zero_add] at h9; exact h9); go_simp⟩) hHeld ?_
    try dsimp only
    try simp only [Act.put, List.getElem_toArray, List.getElem_cons_zero, List.getElem_cons_succ, List.setIfInBounds_toArray, List.set_cons_zero, List.set_cons_succ]
    refine wpAnyH_take (i := 4) (v := .int .i64 (ka : Int)) rfl (by kernel_rfl) (by kernel_rfl) (by kernel_rfl) (fun _ _ _ h => h) (Or.inl ⟨by rfl, fun w _ => by go_simp⟩) hHeld ?_
    try dsimp only
    try simp only [Act.put, List.getElem_toArray, List.getElem_cons_zero, List.getElem_cons_succ, List.setIfInBounds_toArray, List.set_cons_zero, List.set_cons_succ]
    refine wpAnyH_take (i := 5) (v := .pointer (some ⟨(W.heap.size + 1), 5, none⟩)) rfl (by kernel_rfl) (by kernel_rfl) (by kernel_rfl) (fun _ _ _ h => h) (Or.inl ⟨by rfl, fun w _ => by go_simp⟩) hHeld ?_
    try dsimp only
    try simp only [Act.put, List.getElem_toArray, List.getElem_cons_zero, List.getElem_cons_succ, List.setIfInBounds_toArray, List.set_cons_zero, List.set_cons_succ]
    refine wpAnyH_take (i := 6) (v := .int .i64 c.parts) rfl (by kernel_rfl) (by kernel_rfl) (by kernel_rfl) (fun _ _ _ h => h) (Or.inl ⟨by rfl, fun w hw => by have hr9 : w.rangeAt (W.heap.size + 1) (0) [.int .u8 (c.kind : Int), .int .i64 c.size, .int .i64 c.step, .int .i64 c.late, .int .i64 c.skew, .int .i64 c.parts, .int .u64 (c.cut : Int)] := (zrow hw.2.1); have hc : w.cell? ⟨(W.heap.size + 1), 5, none⟩ = some (.int .i64 c.parts) := (by have h9 := hr9 5 _ rfl; rw [Nat.zero_add] at h9; exact h9); go_simp⟩) hHeld ?_
    try dsimp only
    try simp only [Act.put, List.getElem_toArray, List.getElem_cons_zero, List.getElem_cons_succ, List.setIfInBounds_toArray, List.set_cons_zero, List.set_cons_succ]
    refine wpAnyH_take (i := 7) (v := .int .i64 ((ka : Int) % c.parts)) rfl (by kernel_rfl) (by kernel_rfl) (by kernel_rfl) (fun _ _ _ h => h) (Or.inl ⟨by rfl, fun w _ => by go_simp⟩) hHeld ?_
    try dsimp only
    try simp only [Act.put, List.getElem_toArray, List.getElem_cons_zero, List.getElem_cons_succ, List.setIfInBounds_toArray, List.set_cons_zero, List.set_cons_succ]
    refine wpAnyH_take (i := 8) (v := .pointer (some ⟨W.heap.size, 1, none⟩)) rfl (by kernel_rfl) (by kernel_rfl) (by kernel_rfl) (fun _ _ _ h => h) (Or.inl ⟨by rfl, fun w _ => by go_simp⟩) hHeld ?_
    try dsimp only
    try simp only [Act.put, List.getElem_toArray, List.getElem_cons_zero, List.getElem_cons_succ, List.setIfInBounds_toArray, List.set_cons_zero, List.set_cons_succ]
    refine wpAnyH_take (i := 9) (v := .int .u8 (ti : Int)) rfl (by kernel_rfl) (by kernel_rfl) (by kernel_rfl) (fun _ _ _ h => h) (Or.inl ⟨by rfl, fun w hw => by have hr9 : w.rangeAt W.heap.size (0) [.int .u8 (ka : Int), .int .u8 (ti : Int), .int .u8 (ky : Int), .float .f64 va] := (zrow hw.1); have hc : w.cell? ⟨W.heap.size, 1, none⟩ = some (.int .u8 (ti : Int)) := (by have h9 := hr9 1 _ rfl; rw [Nat.zero_add] at h9; exact h9); go_simp⟩) hHeld ?_
    try dsimp only
    try simp only [Act.put, List.getElem_toArray, List.getElem_cons_zero, List.getElem_cons_succ, List.setIfInBounds_toArray, List.set_cons_zero, List.set_cons_succ]
    refine wpAnyH_take (i := 10) (v := .int .i64 (ti : Int)) rfl (by kernel_rfl) (by kernel_rfl) (by kernel_rfl) (fun _ _ _ h => h) (Or.inl ⟨by rfl, fun w _ => by go_simp⟩) hHeld ?_
    try dsimp only
    try simp only [Act.put, List.getElem_toArray, List.getElem_cons_zero, List.getElem_cons_succ, List.setIfInBounds_toArray, List.set_cons_zero, List.set_cons_succ]
    refine wpAnyH_take (i := 11) (v := .int .i64 ((ti : Int) - 60)) rfl (by kernel_rfl) (by kernel_rfl) (by kernel_rfl) (fun _ _ _ h => h) (Or.inl ⟨by rfl, fun w _ => by go_simp⟩) hHeld ?_
    try dsimp only
    try simp only [Act.put, List.getElem_toArray, List.getElem_cons_zero, List.getElem_cons_succ, List.setIfInBounds_toArray, List.set_cons_zero, List.set_cons_succ]
    refine wpAnyH_take (i := 12) (v := .slice (some ⟨W.heap.size + 1 + 1 + 1, 0, none⟩) 4 4) rfl (by kernel_rfl) (by kernel_rfl) (by kernel_rfl) (fun _ _ _ h => h) (Or.inl ⟨by rfl, fun _ _ => rfl⟩) hHeld ?_
    try dsimp only
    try simp only [Act.put, List.getElem_toArray, List.getElem_cons_zero, List.getElem_cons_succ, List.setIfInBounds_toArray, List.set_cons_zero, List.set_cons_succ]
    refine wpAnyH_take (i := 13) (v := .pointer (some ⟨W.heap.size, 2, none⟩)) rfl (by kernel_rfl) (by kernel_rfl) (by kernel_rfl) (fun _ _ _ h => h) (Or.inl ⟨by rfl, fun w _ => by go_simp⟩) hHeld ?_
    try dsimp only
    try simp only [Act.put, List.getElem_toArray, List.getElem_cons_zero, List.getElem_cons_succ, List.setIfInBounds_toArray, List.set_cons_zero, List.set_cons_succ]
    refine wpAnyH_take (i := 14) (v := .int .u8 (ky : Int)) rfl (by kernel_rfl) (by kernel_rfl) (by kernel_rfl) (fun _ _ _ h => h) (Or.inl ⟨by rfl, fun w hw => by have hr9 : w.rangeAt W.heap.size (0) [.int .u8 (ka : Int), .int .u8 (ti : Int), .int .u8 (ky : Int), .float .f64 va] := (zrow hw.1); have hc : w.cell? ⟨W.heap.size, 2, none⟩ = some (.int .u8 (ky : Int)) := (by have h9 := hr9 2 _ rfl; rw [Nat.zero_add] at h9; exact h9); go_simp⟩) hHeld ?_
    try dsimp only
    try simp only [Act.put, List.getElem_toArray, List.getElem_cons_zero, List.getElem_cons_succ, List.setIfInBounds_toArray, List.set_cons_zero, List.set_cons_succ]
    refine wpAnyH_take (i := 15) (v := .int .u8 0) rfl (by kernel_rfl) (by kernel_rfl) (by kernel_rfl) (fun _ _ _ h => h) (Or.inl ⟨by rfl, fun w _ => by go_simp⟩) hHeld ?_
    try dsimp only
    try simp only [Act.put, List.getElem_toArray, List.getElem_cons_zero, List.getElem_cons_succ, List.setIfInBounds_toArray, List.set_cons_zero, List.set_cons_succ]
    refine wpAnyH_take (i := 16) (v := .pointer (some ⟨W.heap.size + 1 + 1 + 1, 0, none⟩)) rfl (by kernel_rfl) (by kernel_rfl) (by kernel_rfl) (fun _ _ _ h => h) (Or.inl ⟨by rfl, fun w _ => by go_simp⟩) hHeld ?_
    try dsimp only
    try simp only [Act.put, List.getElem_toArray, List.getElem_cons_zero, List.getElem_cons_succ, List.setIfInBounds_toArray, List.set_cons_zero, List.set_cons_succ]
    refine wpAnyH_take (i := 17) (v := .string { data := #[97] }) rfl (by kernel_rfl) (by kernel_rfl) (by kernel_rfl) (fun _ _ _ h => h) (Or.inl ⟨by rfl, fun w2 hw => by have hc : w2.cell? ⟨W.heap.size + 1 + 1 + 1, 0, none⟩ = some (.string { data := #[97] }) := (cell_of_row _ _ _ _ _ _ hw.2.2); go_simp⟩) hHeld ?_
    try dsimp only
    try simp only [Act.put, List.getElem_toArray, List.getElem_cons_zero, List.getElem_cons_succ, List.setIfInBounds_toArray, List.set_cons_zero, List.set_cons_succ]
    refine wpAnyH_take (i := 18) (v := .pointer (some ⟨W.heap.size, 3, none⟩)) rfl (by kernel_rfl) (by kernel_rfl) (by kernel_rfl) (fun _ _ _ h => h) (Or.inl ⟨by rfl, fun w _ => by go_simp⟩) hHeld ?_
    try dsimp only
    try simp only [Act.put, List.getElem_toArray, List.getElem_cons_zero, List.getElem_cons_succ, List.setIfInBounds_toArray, List.set_cons_zero, List.set_cons_succ]
    refine wpAnyH_take (i := 19) (v := .float .f64 va) rfl (by kernel_rfl) (by kernel_rfl) (by kernel_rfl) (fun _ _ _ h => h) (Or.inl ⟨by rfl, fun w hw => by have hr9 : w.rangeAt W.heap.size (0) [.int .u8 (ka : Int), .int .u8 (ti : Int), .int .u8 (ky : Int), .float .f64 va] := (zrow hw.1); have hc : w.cell? ⟨W.heap.size, 3, none⟩ = some (.float .f64 va) := (by have h9 := hr9 3 _ rfl; rw [Nat.zero_add] at h9; exact h9); go_simp⟩) hHeld ?_
    try dsimp only
    try simp only [Act.put, List.getElem_toArray, List.getElem_cons_zero, List.getElem_cons_succ, List.setIfInBounds_toArray, List.set_cons_zero, List.set_cons_succ]
    refine wpAnyH_take (i := 20) (v := .agg #[.int .u64 (i : Int), .int .i64 ((ka : Int) % c.parts), .int .i64 ((ti : Int) - 60), .string { data := #[97] }, .float .f64 va]) rfl (by kernel_rfl) (by kernel_rfl) (by kernel_rfl) (fun _ _ _ h => h) (Or.inl ⟨by rfl, fun w _ => by go_simp⟩) hHeld ?_
    try dsimp only
    try simp only [Act.put, List.getElem_toArray, List.getElem_cons_zero, List.getElem_cons_succ, List.setIfInBounds_toArray, List.set_cons_zero, List.set_cons_succ]
    refine wpAnyH_ready (rs := [21]) (by kernel_rfl) (by simp) (AllReadyH.cons rfl (fun K hK => ?_) AllReadyH.nil)
    rw [if_pos (by rfl)]
    refine wp_store_row 76 (.tmp 6) (.tmp 29) rfl (W.heap.size + 1 + 1) #[.int .u64 (i : Int), .int .i64 ((ka : Int) % c.parts), .int .i64 ((ti : Int) - 60), .string { data := #[97] }, .float .f64 va] rfl rfl _ _ HR (by kernel_rfl) rfl (by simp [Value.oneCell']) ?_
    refine hK.out _ _ ⟨(setRow_other _ _ _ _ (by omega)).trans hHeld.1, (setRow_other _ _ _ _ (by omega)).trans hHeld.2.1, (setRow_other _ _ _ _ (by omega)).trans hHeld.2.2⟩ (fun _ => ?_)
    clear hK K
    refine wpAnyH_done (by kernel_rfl) ?_ _
    go_wp2
    exact post_row 6 76 Try.results52 rfl (W.heap.size + 1 + 1) 76 _ (0, 0) _ rfl (setRow_heap _ _ _ _ _ _ HR) uEv rfl (by kernel_rfl) ⟨rfl, below_setRow HB1.out.drew (by omega) _⟩
  · have hko : (ky : Int) % 4 = 1 := by omega
    rw [hk]
    clear hk
    go_enter Try.func52, Try.ntmps52
    go_wp2
    have hww := HW1.out
    rw [← hww]
    clear hww
    refine wp_region_held_drew (S := fun w' => w'.heap[W.heap.size]? = some (.cells #[.int .u8 (ka : Int), .int .u8 (ti : Int), .int .u8 (ky : Int), .float .f64 va] 106 (0, 0)) ∧ w'.heap[W.heap.size + 1]? = some (.cells #[.int .u8 (c.kind : Int), .int .i64 c.size, .int .i64 c.step, .int .i64 c.late, .int .i64 c.skew, .int .i64 c.parts, .int .u64 (c.cut : Int)] 64 (0, 0)) ∧ w'.heap[W.heap.size + 1 + 1 + 1]? = some (.cells #[.string { data := #[97] }, .string { data := #[98] }, .string { data := #[] }, .string { data := #[97, 32, 98] }] 9 (0, 0))) (by kernel_rfl) ⟨HP1.out, HC1.out, HK1.out⟩ (fun hHeld => ?_)
    have HR : w1.drew.heap[W.heap.size + 1 + 1]? = some (.cells #[.int .u64 0, .int .i64 0, .int .i64 0, .string { data := #[] }, .float .f64 0] 76 (0, 0)) := HE1.out
    refine wpAnyH_take (i := 0) (v := .int .i64 (i : Int)) rfl (by kernel_rfl) (by kernel_rfl) (by kernel_rfl) (fun _ _ _ h => h) (Or.inl ⟨by rfl, fun _ _ => rfl⟩) hHeld ?_
    try dsimp only
    try simp only [Act.put, List.getElem_toArray, List.getElem_cons_zero, List.getElem_cons_succ, List.setIfInBounds_toArray, List.set_cons_zero, List.set_cons_succ]
    refine wpAnyH_take (i := 1) (v := .int .u64 (i : Int)) rfl (by kernel_rfl) (by kernel_rfl) (by kernel_rfl) (fun _ _ _ h => h) (Or.inl ⟨by rfl, fun w _ => by go_simp⟩) hHeld ?_
    try dsimp only
    try simp only [Act.put, List.getElem_toArray, List.getElem_cons_zero, List.getElem_cons_succ, List.setIfInBounds_toArray, List.set_cons_zero, List.set_cons_succ]
    refine wpAnyH_take (i := 2) (v := .pointer (some ⟨W.heap.size, 0, none⟩)) rfl (by kernel_rfl) (by kernel_rfl) (by kernel_rfl) (fun _ _ _ h => h) (Or.inl ⟨by rfl, fun w _ => by go_simp⟩) hHeld ?_
    try dsimp only
    try simp only [Act.put, List.getElem_toArray, List.getElem_cons_zero, List.getElem_cons_succ, List.setIfInBounds_toArray, List.set_cons_zero, List.set_cons_succ]
    refine wpAnyH_take (i := 3) (v := .int .u8 (ka : Int)) rfl (by kernel_rfl) (by kernel_rfl) (by kernel_rfl) (fun _ _ _ h => h) (Or.inl ⟨by rfl, fun w hw => by have hr9 : w.rangeAt W.heap.size (0) [.int .u8 (ka : Int), .int .u8 (ti : Int), .int .u8 (ky : Int), .float .f64 va] := (zrow hw.1); have hc : w.cell? ⟨W.heap.size, 0, none⟩ = some (.int .u8 (ka : Int)) := (by have h9 := hr9 0 _ rfl; rw [Nat.zero_add] at h9; exact h9); go_simp⟩) hHeld ?_
    try dsimp only
    try simp only [Act.put, List.getElem_toArray, List.getElem_cons_zero, List.getElem_cons_succ, List.setIfInBounds_toArray, List.set_cons_zero, List.set_cons_succ]
    refine wpAnyH_take (i := 4) (v := .int .i64 (ka : Int)) rfl (by kernel_rfl) (by kernel_rfl) (by kernel_rfl) (fun _ _ _ h => h) (Or.inl ⟨by rfl, fun w _ => by go_simp⟩) hHeld ?_
    try dsimp only
    try simp only [Act.put, List.getElem_toArray, List.getElem_cons_zero, List.getElem_cons_succ, List.setIfInBounds_toArray, List.set_cons_zero, List.set_cons_succ]
    refine wpAnyH_take (i := 5) (v := .pointer (some ⟨(W.heap.size + 1), 5, none⟩)) rfl (by kernel_rfl) (by kernel_rfl) (by kernel_rfl) (fun _ _ _ h => h) (Or.inl ⟨by rfl, fun w _ => by go_simp⟩) hHeld ?_
    try dsimp only
    try simp only [Act.put, List.getElem_toArray, List.getElem_cons_zero, List.getElem_cons_succ, List.setIfInBounds_toArray, List.set_cons_zero, List.set_cons_succ]
    refine wpAnyH_take (i := 6) (v := .int .i64 c.parts) rfl (by kernel_rfl) (by kernel_rfl) (by kernel_rfl) (fun _ _ _ h => h) (Or.inl ⟨by rfl, fun w hw => by have hr9 : w.rangeAt (W.heap.size + 1) (0) [.int .u8 (c.kind : Int), .int .i64 c.size, .int .i64 c.step, .int .i64 c.late, .int .i64 c.skew, .int .i64 c.parts, .int .u64 (c.cut : Int)] := (zrow hw.2.1); have hc : w.cell? ⟨(W.heap.size + 1), 5, none⟩ = some (.int .i64 c.parts) := (by have h9 := hr9 5 _ rfl; rw [Nat.zero_add] at h9; exact h9); go_simp⟩) hHeld ?_
    try dsimp only
    try simp only [Act.put, List.getElem_toArray, List.getElem_cons_zero, List.getElem_cons_succ, List.setIfInBounds_toArray, List.set_cons_zero, List.set_cons_succ]
    refine wpAnyH_take (i := 7) (v := .int .i64 ((ka : Int) % c.parts)) rfl (by kernel_rfl) (by kernel_rfl) (by kernel_rfl) (fun _ _ _ h => h) (Or.inl ⟨by rfl, fun w _ => by go_simp⟩) hHeld ?_
    try dsimp only
    try simp only [Act.put, List.getElem_toArray, List.getElem_cons_zero, List.getElem_cons_succ, List.setIfInBounds_toArray, List.set_cons_zero, List.set_cons_succ]
    refine wpAnyH_take (i := 8) (v := .pointer (some ⟨W.heap.size, 1, none⟩)) rfl (by kernel_rfl) (by kernel_rfl) (by kernel_rfl) (fun _ _ _ h => h) (Or.inl ⟨by rfl, fun w _ => by go_simp⟩) hHeld ?_
    try dsimp only
    try simp only [Act.put, List.getElem_toArray, List.getElem_cons_zero, List.getElem_cons_succ, List.setIfInBounds_toArray, List.set_cons_zero, List.set_cons_succ]
    refine wpAnyH_take (i := 9) (v := .int .u8 (ti : Int)) rfl (by kernel_rfl) (by kernel_rfl) (by kernel_rfl) (fun _ _ _ h => h) (Or.inl ⟨by rfl, fun w hw => by have hr9 : w.rangeAt W.heap.size (0) [.int .u8 (ka : Int), .int .u8 (ti : Int), .int .u8 (ky : Int), .float .f64 va] := (zrow hw.1); have hc : w.cell? ⟨W.heap.size, 1, none⟩ = some (.int .u8 (ti : Int)) := (by have h9 := hr9 1 _ rfl; rw [Nat.zero_add] at h9; exact h9); go_simp⟩) hHeld ?_
    try dsimp only
    try simp only [Act.put, List.getElem_toArray, List.getElem_cons_zero, List.getElem_cons_succ, List.setIfInBounds_toArray, List.set_cons_zero, List.set_cons_succ]
    refine wpAnyH_take (i := 10) (v := .int .i64 (ti : Int)) rfl (by kernel_rfl) (by kernel_rfl) (by kernel_rfl) (fun _ _ _ h => h) (Or.inl ⟨by rfl, fun w _ => by go_simp⟩) hHeld ?_
    try dsimp only
    try simp only [Act.put, List.getElem_toArray, List.getElem_cons_zero, List.getElem_cons_succ, List.setIfInBounds_toArray, List.set_cons_zero, List.set_cons_succ]
    refine wpAnyH_take (i := 11) (v := .int .i64 ((ti : Int) - 60)) rfl (by kernel_rfl) (by kernel_rfl) (by kernel_rfl) (fun _ _ _ h => h) (Or.inl ⟨by rfl, fun w _ => by go_simp⟩) hHeld ?_
    try dsimp only
    try simp only [Act.put, List.getElem_toArray, List.getElem_cons_zero, List.getElem_cons_succ, List.setIfInBounds_toArray, List.set_cons_zero, List.set_cons_succ]
    refine wpAnyH_take (i := 12) (v := .slice (some ⟨W.heap.size + 1 + 1 + 1, 0, none⟩) 4 4) rfl (by kernel_rfl) (by kernel_rfl) (by kernel_rfl) (fun _ _ _ h => h) (Or.inl ⟨by rfl, fun _ _ => rfl⟩) hHeld ?_
    try dsimp only
    try simp only [Act.put, List.getElem_toArray, List.getElem_cons_zero, List.getElem_cons_succ, List.setIfInBounds_toArray, List.set_cons_zero, List.set_cons_succ]
    refine wpAnyH_take (i := 13) (v := .pointer (some ⟨W.heap.size, 2, none⟩)) rfl (by kernel_rfl) (by kernel_rfl) (by kernel_rfl) (fun _ _ _ h => h) (Or.inl ⟨by rfl, fun w _ => by go_simp⟩) hHeld ?_
    try dsimp only
    try simp only [Act.put, List.getElem_toArray, List.getElem_cons_zero, List.getElem_cons_succ, List.setIfInBounds_toArray, List.set_cons_zero, List.set_cons_succ]
    refine wpAnyH_take (i := 14) (v := .int .u8 (ky : Int)) rfl (by kernel_rfl) (by kernel_rfl) (by kernel_rfl) (fun _ _ _ h => h) (Or.inl ⟨by rfl, fun w hw => by have hr9 : w.rangeAt W.heap.size (0) [.int .u8 (ka : Int), .int .u8 (ti : Int), .int .u8 (ky : Int), .float .f64 va] := (zrow hw.1); have hc : w.cell? ⟨W.heap.size, 2, none⟩ = some (.int .u8 (ky : Int)) := (by have h9 := hr9 2 _ rfl; rw [Nat.zero_add] at h9; exact h9); go_simp⟩) hHeld ?_
    try dsimp only
    try simp only [Act.put, List.getElem_toArray, List.getElem_cons_zero, List.getElem_cons_succ, List.setIfInBounds_toArray, List.set_cons_zero, List.set_cons_succ]
    refine wpAnyH_take (i := 15) (v := .int .u8 1) rfl (by kernel_rfl) (by kernel_rfl) (by kernel_rfl) (fun _ _ _ h => h) (Or.inl ⟨by rfl, fun w _ => by go_simp⟩) hHeld ?_
    try dsimp only
    try simp only [Act.put, List.getElem_toArray, List.getElem_cons_zero, List.getElem_cons_succ, List.setIfInBounds_toArray, List.set_cons_zero, List.set_cons_succ]
    refine wpAnyH_take (i := 16) (v := .pointer (some ⟨W.heap.size + 1 + 1 + 1, 1, none⟩)) rfl (by kernel_rfl) (by kernel_rfl) (by kernel_rfl) (fun _ _ _ h => h) (Or.inl ⟨by rfl, fun w _ => by go_simp⟩) hHeld ?_
    try dsimp only
    try simp only [Act.put, List.getElem_toArray, List.getElem_cons_zero, List.getElem_cons_succ, List.setIfInBounds_toArray, List.set_cons_zero, List.set_cons_succ]
    refine wpAnyH_take (i := 17) (v := .string { data := #[98] }) rfl (by kernel_rfl) (by kernel_rfl) (by kernel_rfl) (fun _ _ _ h => h) (Or.inl ⟨by rfl, fun w2 hw => by have hc : w2.cell? ⟨W.heap.size + 1 + 1 + 1, 1, none⟩ = some (.string { data := #[98] }) := (cell_of_row _ _ _ _ _ _ hw.2.2); go_simp⟩) hHeld ?_
    try dsimp only
    try simp only [Act.put, List.getElem_toArray, List.getElem_cons_zero, List.getElem_cons_succ, List.setIfInBounds_toArray, List.set_cons_zero, List.set_cons_succ]
    refine wpAnyH_take (i := 18) (v := .pointer (some ⟨W.heap.size, 3, none⟩)) rfl (by kernel_rfl) (by kernel_rfl) (by kernel_rfl) (fun _ _ _ h => h) (Or.inl ⟨by rfl, fun w _ => by go_simp⟩) hHeld ?_
    try dsimp only
    try simp only [Act.put, List.getElem_toArray, List.getElem_cons_zero, List.getElem_cons_succ, List.setIfInBounds_toArray, List.set_cons_zero, List.set_cons_succ]
    refine wpAnyH_take (i := 19) (v := .float .f64 va) rfl (by kernel_rfl) (by kernel_rfl) (by kernel_rfl) (fun _ _ _ h => h) (Or.inl ⟨by rfl, fun w hw => by have hr9 : w.rangeAt W.heap.size (0) [.int .u8 (ka : Int), .int .u8 (ti : Int), .int .u8 (ky : Int), .float .f64 va] := (zrow hw.1); have hc : w.cell? ⟨W.heap.size, 3, none⟩ = some (.float .f64 va) := (by have h9 := hr9 3 _ rfl; rw [Nat.zero_add] at h9; exact h9); go_simp⟩) hHeld ?_
    try dsimp only
    try simp only [Act.put, List.getElem_toArray, List.getElem_cons_zero, List.getElem_cons_succ, List.setIfInBounds_toArray, List.set_cons_zero, List.set_cons_succ]
    refine wpAnyH_take (i := 20) (v := .agg #[.int .u64 (i : Int), .int .i64 ((ka : Int) % c.parts), .int .i64 ((ti : Int) - 60), .string { data := #[98] }, .float .f64 va]) rfl (by kernel_rfl) (by kernel_rfl) (by kernel_rfl) (fun _ _ _ h => h) (Or.inl ⟨by rfl, fun w _ => by go_simp⟩) hHeld ?_
    try dsimp only
    try simp only [Act.put, List.getElem_toArray, List.getElem_cons_zero, List.getElem_cons_succ, List.setIfInBounds_toArray, List.set_cons_zero, List.set_cons_succ]
    refine wpAnyH_ready (rs := [21]) (by kernel_rfl) (by simp) (AllReadyH.cons rfl (fun K hK => ?_) AllReadyH.nil)
    rw [if_pos (by rfl)]
    refine wp_store_row 76 (.tmp 6) (.tmp 29) rfl (W.heap.size + 1 + 1) #[.int .u64 (i : Int), .int .i64 ((ka : Int) % c.parts), .int .i64 ((ti : Int) - 60), .string { data := #[98] }, .float .f64 va] rfl rfl _ _ HR (by kernel_rfl) rfl (by simp [Value.oneCell']) ?_
    refine hK.out _ _ ⟨(setRow_other _ _ _ _ (by omega)).trans hHeld.1, (setRow_other _ _ _ _ (by omega)).trans hHeld.2.1, (setRow_other _ _ _ _ (by omega)).trans hHeld.2.2⟩ (fun _ => ?_)
    clear hK K
    refine wpAnyH_done (by kernel_rfl) ?_ _
    go_wp2
    exact post_row 6 76 Try.results52 rfl (W.heap.size + 1 + 1) 76 _ (0, 0) _ rfl (setRow_heap _ _ _ _ _ _ HR) uEv rfl (by kernel_rfl) ⟨rfl, below_setRow HB1.out.drew (by omega) _⟩
  · have hko : (ky : Int) % 4 = 2 := by omega
    rw [hk]
    clear hk
    go_enter Try.func52, Try.ntmps52
    go_wp2
    have hww := HW1.out
    rw [← hww]
    clear hww
    refine wp_region_held_drew (S := fun w' => w'.heap[W.heap.size]? = some (.cells #[.int .u8 (ka : Int), .int .u8 (ti : Int), .int .u8 (ky : Int), .float .f64 va] 106 (0, 0)) ∧ w'.heap[W.heap.size + 1]? = some (.cells #[.int .u8 (c.kind : Int), .int .i64 c.size, .int .i64 c.step, .int .i64 c.late, .int .i64 c.skew, .int .i64 c.parts, .int .u64 (c.cut : Int)] 64 (0, 0)) ∧ w'.heap[W.heap.size + 1 + 1 + 1]? = some (.cells #[.string { data := #[97] }, .string { data := #[98] }, .string { data := #[] }, .string { data := #[97, 32, 98] }] 9 (0, 0))) (by kernel_rfl) ⟨HP1.out, HC1.out, HK1.out⟩ (fun hHeld => ?_)
    have HR : w1.drew.heap[W.heap.size + 1 + 1]? = some (.cells #[.int .u64 0, .int .i64 0, .int .i64 0, .string { data := #[] }, .float .f64 0] 76 (0, 0)) := HE1.out
    refine wpAnyH_take (i := 0) (v := .int .i64 (i : Int)) rfl (by kernel_rfl) (by kernel_rfl) (by kernel_rfl) (fun _ _ _ h => h) (Or.inl ⟨by rfl, fun _ _ => rfl⟩) hHeld ?_
    try dsimp only
    try simp only [Act.put, List.getElem_toArray, List.getElem_cons_zero, List.getElem_cons_succ, List.setIfInBounds_toArray, List.set_cons_zero, List.set_cons_succ]
    refine wpAnyH_take (i := 1) (v := .int .u64 (i : Int)) rfl (by kernel_rfl) (by kernel_rfl) (by kernel_rfl) (fun _ _ _ h => h) (Or.inl ⟨by rfl, fun w _ => by go_simp⟩) hHeld ?_
    try dsimp only
    try simp only [Act.put, List.getElem_toArray, List.getElem_cons_zero, List.getElem_cons_succ, List.setIfInBounds_toArray, List.set_cons_zero, List.set_cons_succ]
    refine wpAnyH_take (i := 2) (v := .pointer (some ⟨W.heap.size, 0, none⟩)) rfl (by kernel_rfl) (by kernel_rfl) (by kernel_rfl) (fun _ _ _ h => h) (Or.inl ⟨by rfl, fun w _ => by go_simp⟩) hHeld ?_
    try dsimp only
    try simp only [Act.put, List.getElem_toArray, List.getElem_cons_zero, List.getElem_cons_succ, List.setIfInBounds_toArray, List.set_cons_zero, List.set_cons_succ]
    refine wpAnyH_take (i := 3) (v := .int .u8 (ka : Int)) rfl (by kernel_rfl) (by kernel_rfl) (by kernel_rfl) (fun _ _ _ h => h) (Or.inl ⟨by rfl, fun w hw => by have hr9 : w.rangeAt W.heap.size (0) [.int .u8 (ka : Int), .int .u8 (ti : Int), .int .u8 (ky : Int), .float .f64 va] := (zrow hw.1); have hc : w.cell? ⟨W.heap.size, 0, none⟩ = some (.int .u8 (ka : Int)) := (by have h9 := hr9 0 _ rfl; rw [Nat.zero_add] at h9; exact h9); go_simp⟩) hHeld ?_
    try dsimp only
    try simp only [Act.put, List.getElem_toArray, List.getElem_cons_zero, List.getElem_cons_succ, List.setIfInBounds_toArray, List.set_cons_zero, List.set_cons_succ]
    refine wpAnyH_take (i := 4) (v := .int .i64 (ka : Int)) rfl (by kernel_rfl) (by kernel_rfl) (by kernel_rfl) (fun _ _ _ h => h) (Or.inl ⟨by rfl, fun w _ => by go_simp⟩) hHeld ?_
    try dsimp only
    try simp only [Act.put, List.getElem_toArray, List.getElem_cons_zero, List.getElem_cons_succ, List.setIfInBounds_toArray, List.set_cons_zero, List.set_cons_succ]
    refine wpAnyH_take (i := 5) (v := .pointer (some ⟨(W.heap.size + 1), 5, none⟩)) rfl (by kernel_rfl) (by kernel_rfl) (by kernel_rfl) (fun _ _ _ h => h) (Or.inl ⟨by rfl, fun w _ => by go_simp⟩) hHeld ?_
    try dsimp only
    try simp only [Act.put, List.getElem_toArray, List.getElem_cons_zero, List.getElem_cons_succ, List.setIfInBounds_toArray, List.set_cons_zero, List.set_cons_succ]
    refine wpAnyH_take (i := 6) (v := .int .i64 c.parts) rfl (by kernel_rfl) (by kernel_rfl) (by kernel_rfl) (fun _ _ _ h => h) (Or.inl ⟨by rfl, fun w hw => by have hr9 : w.rangeAt (W.heap.size + 1) (0) [.int .u8 (c.kind : Int), .int .i64 c.size, .int .i64 c.step, .int .i64 c.late, .int .i64 c.skew, .int .i64 c.parts, .int .u64 (c.cut : Int)] := (zrow hw.2.1); have hc : w.cell? ⟨(W.heap.size + 1), 5, none⟩ = some (.int .i64 c.parts) := (by have h9 := hr9 5 _ rfl; rw [Nat.zero_add] at h9; exact h9); go_simp⟩) hHeld ?_
    try dsimp only
    try simp only [Act.put, List.getElem_toArray, List.getElem_cons_zero, List.getElem_cons_succ, List.setIfInBounds_toArray, List.set_cons_zero, List.set_cons_succ]
    refine wpAnyH_take (i := 7) (v := .int .i64 ((ka : Int) % c.parts)) rfl (by kernel_rfl) (by kernel_rfl) (by kernel_rfl) (fun _ _ _ h => h) (Or.inl ⟨by rfl, fun w _ => by go_simp⟩) hHeld ?_
    try dsimp only
    try simp only [Act.put, List.getElem_toArray, List.getElem_cons_zero, List.getElem_cons_succ, List.setIfInBounds_toArray, List.set_cons_zero, List.set_cons_succ]
    refine wpAnyH_take (i := 8) (v := .pointer (some ⟨W.heap.size, 1, none⟩)) rfl (by kernel_rfl) (by kernel_rfl) (by kernel_rfl) (fun _ _ _ h => h) (Or.inl ⟨by rfl, fun w _ => by go_simp⟩) hHeld ?_
    try dsimp only
    try simp only [Act.put, List.getElem_toArray, List.getElem_cons_zero, List.getElem_cons_succ, List.setIfInBounds_toArray, List.set_cons_zero, List.set_cons_succ]
    refine wpAnyH_take (i := 9) (v := .int .u8 (ti : Int)) rfl (by kernel_rfl) (by kernel_rfl) (by kernel_rfl) (fun _ _ _ h => h) (Or.inl ⟨by rfl, fun w hw => by have hr9 : w.rangeAt W.heap.size (0) [.int .u8 (ka : Int), .int .u8 (ti : Int), .int .u8 (ky : Int), .float .f64 va] := (zrow hw.1); have hc : w.cell? ⟨W.heap.size, 1, none⟩ = some (.int .u8 (ti : Int)) := (by have h9 := hr9 1 _ rfl; rw [Nat.zero_add] at h9; exact h9); go_simp⟩) hHeld ?_
    try dsimp only
    try simp only [Act.put, List.getElem_toArray, List.getElem_cons_zero, List.getElem_cons_succ, List.setIfInBounds_toArray, List.set_cons_zero, List.set_cons_succ]
    refine wpAnyH_take (i := 10) (v := .int .i64 (ti : Int)) rfl (by kernel_rfl) (by kernel_rfl) (by kernel_rfl) (fun _ _ _ h => h) (Or.inl ⟨by rfl, fun w _ => by go_simp⟩) hHeld ?_
    try dsimp only
    try simp only [Act.put, List.getElem_toArray, List.getElem_cons_zero, List.getElem_cons_succ, List.setIfInBounds_toArray, List.set_cons_zero, List.set_cons_succ]
    refine wpAnyH_take (i := 11) (v := .int .i64 ((ti : Int) - 60)) rfl (by kernel_rfl) (by kernel_rfl) (by kernel_rfl) (fun _ _ _ h => h) (Or.inl ⟨by rfl, fun w _ => by go_simp⟩) hHeld ?_
    try dsimp only
    try simp only [Act.put, List.getElem_toArray, List.getElem_cons_zero, List.getElem_cons_succ, List.setIfInBounds_toArray, List.set_cons_zero, List.set_cons_succ]
    refine wpAnyH_take (i := 12) (v := .slice (some ⟨W.heap.size + 1 + 1 + 1, 0, none⟩) 4 4) rfl (by kernel_rfl) (by kernel_rfl) (by kernel_rfl) (fun _ _ _ h => h) (Or.inl ⟨by rfl, fun _ _ => rfl⟩) hHeld ?_
    try dsimp only
    try simp only [Act.put, List.getElem_toArray, List.getElem_cons_zero, List.getElem_cons_succ, List.setIfInBounds_toArray, List.set_cons_zero, List.set_cons_succ]
    refine wpAnyH_take (i := 13) (v := .pointer (some ⟨W.heap.size, 2, none⟩)) rfl (by kernel_rfl) (by kernel_rfl) (by kernel_rfl) (fun _ _ _ h => h) (Or.inl ⟨by rfl, fun w _ => by go_simp⟩) hHeld ?_
    try dsimp only
    try simp only [Act.put, List.getElem_toArray, List.getElem_cons_zero, List.getElem_cons_succ, List.setIfInBounds_toArray, List.set_cons_zero, List.set_cons_succ]
    refine wpAnyH_take (i := 14) (v := .int .u8 (ky : Int)) rfl (by kernel_rfl) (by kernel_rfl) (by kernel_rfl) (fun _ _ _ h => h) (Or.inl ⟨by rfl, fun w hw => by have hr9 : w.rangeAt W.heap.size (0) [.int .u8 (ka : Int), .int .u8 (ti : Int), .int .u8 (ky : Int), .float .f64 va] := (zrow hw.1); have hc : w.cell? ⟨W.heap.size, 2, none⟩ = some (.int .u8 (ky : Int)) := (by have h9 := hr9 2 _ rfl; rw [Nat.zero_add] at h9; exact h9); go_simp⟩) hHeld ?_
    try dsimp only
    try simp only [Act.put, List.getElem_toArray, List.getElem_cons_zero, List.getElem_cons_succ, List.setIfInBounds_toArray, List.set_cons_zero, List.set_cons_succ]
    refine wpAnyH_take (i := 15) (v := .int .u8 2) rfl (by kernel_rfl) (by kernel_rfl) (by kernel_rfl) (fun _ _ _ h => h) (Or.inl ⟨by rfl, fun w _ => by go_simp⟩) hHeld ?_
    try dsimp only
    try simp only [Act.put, List.getElem_toArray, List.getElem_cons_zero, List.getElem_cons_succ, List.setIfInBounds_toArray, List.set_cons_zero, List.set_cons_succ]
    refine wpAnyH_take (i := 16) (v := .pointer (some ⟨W.heap.size + 1 + 1 + 1, 2, none⟩)) rfl (by kernel_rfl) (by kernel_rfl) (by kernel_rfl) (fun _ _ _ h => h) (Or.inl ⟨by rfl, fun w _ => by go_simp⟩) hHeld ?_
    try dsimp only
    try simp only [Act.put, List.getElem_toArray, List.getElem_cons_zero, List.getElem_cons_succ, List.setIfInBounds_toArray, List.set_cons_zero, List.set_cons_succ]
    refine wpAnyH_take (i := 17) (v := .string { data := #[] }) rfl (by kernel_rfl) (by kernel_rfl) (by kernel_rfl) (fun _ _ _ h => h) (Or.inl ⟨by rfl, fun w2 hw => by have hc : w2.cell? ⟨W.heap.size + 1 + 1 + 1, 2, none⟩ = some (.string { data := #[] }) := (cell_of_row _ _ _ _ _ _ hw.2.2); go_simp⟩) hHeld ?_
    try dsimp only
    try simp only [Act.put, List.getElem_toArray, List.getElem_cons_zero, List.getElem_cons_succ, List.setIfInBounds_toArray, List.set_cons_zero, List.set_cons_succ]
    refine wpAnyH_take (i := 18) (v := .pointer (some ⟨W.heap.size, 3, none⟩)) rfl (by kernel_rfl) (by kernel_rfl) (by kernel_rfl) (fun _ _ _ h => h) (Or.inl ⟨by rfl, fun w _ => by go_simp⟩) hHeld ?_
    try dsimp only
    try simp only [Act.put, List.getElem_toArray, List.getElem_cons_zero, List.getElem_cons_succ, List.setIfInBounds_toArray, List.set_cons_zero, List.set_cons_succ]
    refine wpAnyH_take (i := 19) (v := .float .f64 va) rfl (by kernel_rfl) (by kernel_rfl) (by kernel_rfl) (fun _ _ _ h => h) (Or.inl ⟨by rfl, fun w hw => by have hr9 : w.rangeAt W.heap.size (0) [.int .u8 (ka : Int), .int .u8 (ti : Int), .int .u8 (ky : Int), .float .f64 va] := (zrow hw.1); have hc : w.cell? ⟨W.heap.size, 3, none⟩ = some (.float .f64 va) := (by have h9 := hr9 3 _ rfl; rw [Nat.zero_add] at h9; exact h9); go_simp⟩) hHeld ?_
    try dsimp only
    try simp only [Act.put, List.getElem_toArray, List.getElem_cons_zero, List.getElem_cons_succ, List.setIfInBounds_toArray, List.set_cons_zero, List.set_cons_succ]
    refine wpAnyH_take (i := 20) (v := .agg #[.int .u64 (i : Int), .int .i64 ((ka : Int) % c.parts), .int .i64 ((ti : Int) - 60), .string { data := #[] }, .float .f64 va]) rfl (by kernel_rfl) (by kernel_rfl) (by kernel_rfl) (fun _ _ _ h => h) (Or.inl ⟨by rfl, fun w _ => by go_simp⟩) hHeld ?_
    try dsimp only
    try simp only [Act.put, List.getElem_toArray, List.getElem_cons_zero, List.getElem_cons_succ, List.setIfInBounds_toArray, List.set_cons_zero, List.set_cons_succ]
    refine wpAnyH_ready (rs := [21]) (by kernel_rfl) (by simp) (AllReadyH.cons rfl (fun K hK => ?_) AllReadyH.nil)
    rw [if_pos (by rfl)]
    refine wp_store_row 76 (.tmp 6) (.tmp 29) rfl (W.heap.size + 1 + 1) #[.int .u64 (i : Int), .int .i64 ((ka : Int) % c.parts), .int .i64 ((ti : Int) - 60), .string { data := #[] }, .float .f64 va] rfl rfl _ _ HR (by kernel_rfl) rfl (by simp [Value.oneCell']) ?_
    refine hK.out _ _ ⟨(setRow_other _ _ _ _ (by omega)).trans hHeld.1, (setRow_other _ _ _ _ (by omega)).trans hHeld.2.1, (setRow_other _ _ _ _ (by omega)).trans hHeld.2.2⟩ (fun _ => ?_)
    clear hK K
    refine wpAnyH_done (by kernel_rfl) ?_ _
    go_wp2
    exact post_row 6 76 Try.results52 rfl (W.heap.size + 1 + 1) 76 _ (0, 0) _ rfl (setRow_heap _ _ _ _ _ _ HR) uEv rfl (by kernel_rfl) ⟨rfl, below_setRow HB1.out.drew (by omega) _⟩
  · have hko : (ky : Int) % 4 = 3 := by omega
    rw [hk]
    clear hk
    go_enter Try.func52, Try.ntmps52
    go_wp2
    have hww := HW1.out
    rw [← hww]
    clear hww
    refine wp_region_held_drew (S := fun w' => w'.heap[W.heap.size]? = some (.cells #[.int .u8 (ka : Int), .int .u8 (ti : Int), .int .u8 (ky : Int), .float .f64 va] 106 (0, 0)) ∧ w'.heap[W.heap.size + 1]? = some (.cells #[.int .u8 (c.kind : Int), .int .i64 c.size, .int .i64 c.step, .int .i64 c.late, .int .i64 c.skew, .int .i64 c.parts, .int .u64 (c.cut : Int)] 64 (0, 0)) ∧ w'.heap[W.heap.size + 1 + 1 + 1]? = some (.cells #[.string { data := #[97] }, .string { data := #[98] }, .string { data := #[] }, .string { data := #[97, 32, 98] }] 9 (0, 0))) (by kernel_rfl) ⟨HP1.out, HC1.out, HK1.out⟩ (fun hHeld => ?_)
    have HR : w1.drew.heap[W.heap.size + 1 + 1]? = some (.cells #[.int .u64 0, .int .i64 0, .int .i64 0, .string { data := #[] }, .float .f64 0] 76 (0, 0)) := HE1.out
    refine wpAnyH_take (i := 0) (v := .int .i64 (i : Int)) rfl (by kernel_rfl) (by kernel_rfl) (by kernel_rfl) (fun _ _ _ h => h) (Or.inl ⟨by rfl, fun _ _ => rfl⟩) hHeld ?_
    try dsimp only
    try simp only [Act.put, List.getElem_toArray, List.getElem_cons_zero, List.getElem_cons_succ, List.setIfInBounds_toArray, List.set_cons_zero, List.set_cons_succ]
    refine wpAnyH_take (i := 1) (v := .int .u64 (i : Int)) rfl (by kernel_rfl) (by kernel_rfl) (by kernel_rfl) (fun _ _ _ h => h) (Or.inl ⟨by rfl, fun w _ => by go_simp⟩) hHeld ?_
    try dsimp only
    try simp only [Act.put, List.getElem_toArray, List.getElem_cons_zero, List.getElem_cons_succ, List.setIfInBounds_toArray, List.set_cons_zero, List.set_cons_succ]
    refine wpAnyH_take (i := 2) (v := .pointer (some ⟨W.heap.size, 0, none⟩)) rfl (by kernel_rfl) (by kernel_rfl) (by kernel_rfl) (fun _ _ _ h => h) (Or.inl ⟨by rfl, fun w _ => by go_simp⟩) hHeld ?_
    try dsimp only
    try simp only [Act.put, List.getElem_toArray, List.getElem_cons_zero, List.getElem_cons_succ, List.setIfInBounds_toArray, List.set_cons_zero, List.set_cons_succ]
    refine wpAnyH_take (i := 3) (v := .int .u8 (ka : Int)) rfl (by kernel_rfl) (by kernel_rfl) (by kernel_rfl) (fun _ _ _ h => h) (Or.inl ⟨by rfl, fun w hw => by have hr9 : w.rangeAt W.heap.size (0) [.int .u8 (ka : Int), .int .u8 (ti : Int), .int .u8 (ky : Int), .float .f64 va] := (zrow hw.1); have hc : w.cell? ⟨W.heap.size, 0, none⟩ = some (.int .u8 (ka : Int)) := (by have h9 := hr9 0 _ rfl; rw [Nat.zero_add] at h9; exact h9); go_simp⟩) hHeld ?_
    try dsimp only
    try simp only [Act.put, List.getElem_toArray, List.getElem_cons_zero, List.getElem_cons_succ, List.setIfInBounds_toArray, List.set_cons_zero, List.set_cons_succ]
    refine wpAnyH_take (i := 4) (v := .int .i64 (ka : Int)) rfl (by kernel_rfl) (by kernel_rfl) (by kernel_rfl) (fun _ _ _ h => h) (Or.inl ⟨by rfl, fun w _ => by go_simp⟩) hHeld ?_
    try dsimp only
    try simp only [Act.put, List.getElem_toArray, List.getElem_cons_zero, List.getElem_cons_succ, List.setIfInBounds_toArray, List.set_cons_zero, List.set_cons_succ]
    refine wpAnyH_take (i := 5) (v := .pointer (some ⟨(W.heap.size + 1), 5, none⟩)) rfl (by kernel_rfl) (by kernel_rfl) (by kernel_rfl) (fun _ _ _ h => h) (Or.inl ⟨by rfl, fun w _ => by go_simp⟩) hHeld ?_
    try dsimp only
    try simp only [Act.put, List.getElem_toArray, List.getElem_cons_zero, List.getElem_cons_succ, List.setIfInBounds_toArray, List.set_cons_zero, List.set_cons_succ]
    refine wpAnyH_take (i := 6) (v := .int .i64 c.parts) rfl (by kernel_rfl) (by kernel_rfl) (by kernel_rfl) (fun _ _ _ h => h) (Or.inl ⟨by rfl, fun w hw => by have hr9 : w.rangeAt (W.heap.size + 1) (0) [.int .u8 (c.kind : Int), .int .i64 c.size, .int .i64 c.step, .int .i64 c.late, .int .i64 c.skew, .int .i64 c.parts, .int .u64 (c.cut : Int)] := (zrow hw.2.1); have hc : w.cell? ⟨(W.heap.size + 1), 5, none⟩ = some (.int .i64 c.parts) := (by have h9 := hr9 5 _ rfl; rw [Nat.zero_add] at h9; exact h9); go_simp⟩) hHeld ?_
    try dsimp only
    try simp only [Act.put, List.getElem_toArray, List.getElem_cons_zero, List.getElem_cons_succ, List.setIfInBounds_toArray, List.set_cons_zero, List.set_cons_succ]
    refine wpAnyH_take (i := 7) (v := .int .i64 ((ka : Int) % c.parts)) rfl (by kernel_rfl) (by kernel_rfl) (by kernel_rfl) (fun _ _ _ h => h) (Or.inl ⟨by rfl, fun w _ => by go_simp⟩) hHeld ?_
    try dsimp only
    try simp only [Act.put, List.getElem_toArray, List.getElem_cons_zero, List.getElem_cons_succ, List.setIfInBounds_toArray, List.set_cons_zero, List.set_cons_succ]
    refine wpAnyH_take (i := 8) (v := .pointer (some ⟨W.heap.size, 1, none⟩)) rfl (by kernel_rfl) (by kernel_rfl) (by kernel_rfl) (fun _ _ _ h => h) (Or.inl ⟨by rfl, fun w _ => by go_simp⟩) hHeld ?_
    try dsimp only
    try simp only [Act.put, List.getElem_toArray, List.getElem_cons_zero, List.getElem_cons_succ, List.setIfInBounds_toArray, List.set_cons_zero, List.set_cons_succ]
    refine wpAnyH_take (i := 9) (v := .int .u8 (ti : Int)) rfl (by kernel_rfl) (by kernel_rfl) (by kernel_rfl) (fun _ _ _ h => h) (Or.inl ⟨by rfl, fun w hw => by have hr9 : w.rangeAt W.heap.size (0) [.int .u8 (ka : Int), .int .u8 (ti : Int), .int .u8 (ky : Int), .float .f64 va] := (zrow hw.1); have hc : w.cell? ⟨W.heap.size, 1, none⟩ = some (.int .u8 (ti : Int)) := (by have h9 := hr9 1 _ rfl; rw [Nat.zero_add] at h9; exact h9); go_simp⟩) hHeld ?_
    try dsimp only
    try simp only [Act.put, List.getElem_toArray, List.getElem_cons_zero, List.getElem_cons_succ, List.setIfInBounds_toArray, List.set_cons_zero, List.set_cons_succ]
    refine wpAnyH_take (i := 10) (v := .int .i64 (ti : Int)) rfl (by kernel_rfl) (by kernel_rfl) (by kernel_rfl) (fun _ _ _ h => h) (Or.inl ⟨by rfl, fun w _ => by go_simp⟩) hHeld ?_
    try dsimp only
    try simp only [Act.put, List.getElem_toArray, List.getElem_cons_zero, List.getElem_cons_succ, List.setIfInBounds_toArray, List.set_cons_zero, List.set_cons_succ]
    refine wpAnyH_take (i := 11) (v := .int .i64 ((ti : Int) - 60)) rfl (by kernel_rfl) (by kernel_rfl) (by kernel_rfl) (fun _ _ _ h => h) (Or.inl ⟨by rfl, fun w _ => by go_simp⟩) hHeld ?_
    try dsimp only
    try simp only [Act.put, List.getElem_toArray, List.getElem_cons_zero, List.getElem_cons_succ, List.setIfInBounds_toArray, List.set_cons_zero, List.set_cons_succ]
    refine wpAnyH_take (i := 12) (v := .slice (some ⟨W.heap.size + 1 + 1 + 1, 0, none⟩) 4 4) rfl (by kernel_rfl) (by kernel_rfl) (by kernel_rfl) (fun _ _ _ h => h) (Or.inl ⟨by rfl, fun _ _ => rfl⟩) hHeld ?_
    try dsimp only
    try simp only [Act.put, List.getElem_toArray, List.getElem_cons_zero, List.getElem_cons_succ, List.setIfInBounds_toArray, List.set_cons_zero, List.set_cons_succ]
    refine wpAnyH_take (i := 13) (v := .pointer (some ⟨W.heap.size, 2, none⟩)) rfl (by kernel_rfl) (by kernel_rfl) (by kernel_rfl) (fun _ _ _ h => h) (Or.inl ⟨by rfl, fun w _ => by go_simp⟩) hHeld ?_
    try dsimp only
    try simp only [Act.put, List.getElem_toArray, List.getElem_cons_zero, List.getElem_cons_succ, List.setIfInBounds_toArray, List.set_cons_zero, List.set_cons_succ]
    refine wpAnyH_take (i := 14) (v := .int .u8 (ky : Int)) rfl (by kernel_rfl) (by kernel_rfl) (by kernel_rfl) (fun _ _ _ h => h) (Or.inl ⟨by rfl, fun w hw => by have hr9 : w.rangeAt W.heap.size (0) [.int .u8 (ka : Int), .int .u8 (ti : Int), .int .u8 (ky : Int), .float .f64 va] := (zrow hw.1); have hc : w.cell? ⟨W.heap.size, 2, none⟩ = some (.int .u8 (ky : Int)) := (by have h9 := hr9 2 _ rfl; rw [Nat.zero_add] at h9; exact h9); go_simp⟩) hHeld ?_
    try dsimp only
    try simp only [Act.put, List.getElem_toArray, List.getElem_cons_zero, List.getElem_cons_succ, List.setIfInBounds_toArray, List.set_cons_zero, List.set_cons_succ]
    refine wpAnyH_take (i := 15) (v := .int .u8 3) rfl (by kernel_rfl) (by kernel_rfl) (by kernel_rfl) (fun _ _ _ h => h) (Or.inl ⟨by rfl, fun w _ => by go_simp⟩) hHeld ?_
    try dsimp only
    try simp only [Act.put, List.getElem_toArray, List.getElem_cons_zero, List.getElem_cons_succ, List.setIfInBounds_toArray, List.set_cons_zero, List.set_cons_succ]
    refine wpAnyH_take (i := 16) (v := .pointer (some ⟨W.heap.size + 1 + 1 + 1, 3, none⟩)) rfl (by kernel_rfl) (by kernel_rfl) (by kernel_rfl) (fun _ _ _ h => h) (Or.inl ⟨by rfl, fun w _ => by go_simp⟩) hHeld ?_
    try dsimp only
    try simp only [Act.put, List.getElem_toArray, List.getElem_cons_zero, List.getElem_cons_succ, List.setIfInBounds_toArray, List.set_cons_zero, List.set_cons_succ]
    refine wpAnyH_take (i := 17) (v := .string { data := #[97, 32, 98] }) rfl (by kernel_rfl) (by kernel_rfl) (by kernel_rfl) (fun _ _ _ h => h) (Or.inl ⟨by rfl, fun w2 hw => by have hc : w2.cell? ⟨W.heap.size + 1 + 1 + 1, 3, none⟩ = some (.string { data := #[97, 32, 98] }) := (cell_of_row _ _ _ _ _ _ hw.2.2); go_simp⟩) hHeld ?_
    try dsimp only
    try simp only [Act.put, List.getElem_toArray, List.getElem_cons_zero, List.getElem_cons_succ, List.setIfInBounds_toArray, List.set_cons_zero, List.set_cons_succ]
    refine wpAnyH_take (i := 18) (v := .pointer (some ⟨W.heap.size, 3, none⟩)) rfl (by kernel_rfl) (by kernel_rfl) (by kernel_rfl) (fun _ _ _ h => h) (Or.inl ⟨by rfl, fun w _ => by go_simp⟩) hHeld ?_
    try dsimp only
    try simp only [Act.put, List.getElem_toArray, List.getElem_cons_zero, List.getElem_cons_succ, List.setIfInBounds_toArray, List.set_cons_zero, List.set_cons_succ]
    refine wpAnyH_take (i := 19) (v := .float .f64 va) rfl (by kernel_rfl) (by kernel_rfl) (by kernel_rfl) (fun _ _ _ h => h) (Or.inl ⟨by rfl, fun w hw => by have hr9 : w.rangeAt W.heap.size (0) [.int .u8 (ka : Int), .int .u8 (ti : Int), .int .u8 (ky : Int), .float .f64 va] := (zrow hw.1); have hc : w.cell? ⟨W.heap.size, 3, none⟩ = some (.float .f64 va) := (by have h9 := hr9 3 _ rfl; rw [Nat.zero_add] at h9; exact h9); go_simp⟩) hHeld ?_
    try dsimp only
    try simp only [Act.put, List.getElem_toArray, List.getElem_cons_zero, List.getElem_cons_succ, List.setIfInBounds_toArray, List.set_cons_zero, List.set_cons_succ]
    refine wpAnyH_take (i := 20) (v := .agg #[.int .u64 (i : Int), .int .i64 ((ka : Int) % c.parts), .int .i64 ((ti : Int) - 60), .string { data := #[97, 32, 98] }, .float .f64 va]) rfl (by kernel_rfl) (by kernel_rfl) (by kernel_rfl) (fun _ _ _ h => h) (Or.inl ⟨by rfl, fun w _ => by go_simp⟩) hHeld ?_
    try dsimp only
    try simp only [Act.put, List.getElem_toArray, List.getElem_cons_zero, List.getElem_cons_succ, List.setIfInBounds_toArray, List.set_cons_zero, List.set_cons_succ]
    refine wpAnyH_ready (rs := [21]) (by kernel_rfl) (by simp) (AllReadyH.cons rfl (fun K hK => ?_) AllReadyH.nil)
    rw [if_pos (by rfl)]
    refine wp_store_row 76 (.tmp 6) (.tmp 29) rfl (W.heap.size + 1 + 1) #[.int .u64 (i : Int), .int .i64 ((ka : Int) % c.parts), .int .i64 ((ti : Int) - 60), .string { data := #[97, 32, 98] }, .float .f64 va] rfl rfl _ _ HR (by kernel_rfl) rfl (by simp [Value.oneCell']) ?_
    refine hK.out _ _ ⟨(setRow_other _ _ _ _ (by omega)).trans hHeld.1, (setRow_other _ _ _ _ (by omega)).trans hHeld.2.1, (setRow_other _ _ _ _ (by omega)).trans hHeld.2.2⟩ (fun _ => ?_)
    clear hK K
    refine wpAnyH_done (by kernel_rfl) ?_ _
    go_wp2
    exact post_row 6 76 Try.results52 rfl (W.heap.size + 1 + 1) 76 _ (0, 0) _ rfl (setRow_heap _ _ _ _ _ _ HR) uEv rfl (by kernel_rfl) ⟨rfl, below_setRow HB1.out.drew (by omega) _⟩
end Go.Proofs.Ytbimfopbilcdgaa

set_option linter.unusedSimpArgs false
set_option linter.unusedVariables false
set_option maxRecDepth 8000
namespace Go.Proofs.Ytbimfopbilcdgaa
open Go.RowKit Go.Sort Sm

theorem uPt : Try.prog.underlying 106 = some (.struct (Try.prog.fieldsOf 106)) := by kernel_rfl
/-- The events of a log, up to a place. -/
def lgL (c : Cf) (ps : List Pt) (k : Nat) : List Ev := (List.range k).map fun i => evPt c ps[i]! i
theorem lgL_succ (c : Cf) (ps : List Pt) (k : Nat) : lgL c ps (k + 1) = lgL c ps k ++ [evPt c ps[k]! k] := by unfold lgL; rw [List.range_succ, List.map_append]; rfl
theorem lgL_len (c : Cf) (ps : List Pt) (k : Nat) : (lgL c ps k).length = k := by unfold lgL; simp
theorem lgL_get (c : Cf) (ps : List Pt) (k i : Nat) (h : i < k) : (lgL c ps k)[i]? = some (evPt c ps[i]! i) := by unfold lgL; simp [h]
theorem lgL_fit (c : Cf) (ps : List Pt) (hp : ∀ p ∈ ps, p.Ok) (k : Nat) (hk : k ≤ ps.length) (h60 : k ≤ 60) : EvFit (lgL c ps k) := by
  have hm : ∀ x ∈ lgL c ps k, ∃ p ∈ ps, ∃ i, x = evPt c p i := fun x hx => by
    unfold lgL at hx
    obtain ⟨i, hi, rfl⟩ := List.mem_map.1 hx
    have hi := List.mem_range.1 hi
    refine ⟨ps[i]!, ?_, i, rfl⟩
    rw [getElem!_pos ps i (by omega)]
    exact List.getElem_mem _
  refine ⟨fun x hx => ?_, fun x hx => ?_, by rw [lgL_len]; exact h60⟩
  · obtain ⟨p, hpm, i, rfl⟩ := hm x hx
    exact (hp p hpm).val
  · obtain ⟨p, hpm, i, rfl⟩ := hm x hx
    have := (hp p hpm).time
    unfold evPt
    simp only
    omega
theorem wp_append_ev1 {w : World} {o : Oper} {a : Act} {K : Act → World → Prop} {Q : Exit → Act → World → Prop} (s x : Operand)
    (ho : o.op = .call { callee := .builtin .append, args := #[s, x], argTypes := #[66, 66] })
    (B : Nat) (A : Option Addr) (n cap : Nat) (l : List Ev) (hs : a.eval s = .slice A n cap) (hown : OwnE w B A n cap l) (h c : Nat) (y : Ev) (hx : a.eval x = .slice (some ⟨h, 0, none⟩) 1 c) (hrow : w.heap[h]? = some (.cells y.cells.toArray 76 (0, 0)))
    (N : Nat) (hN : N = n + 1) (hn : n + 1 ≤ 100000) (hbase : B ≤ w.heap.size)
    (hk : ∀ A' cap' w', OwnE w' B A' N cap' (l ++ [y]) → N ≤ cap' → cap' ≤ maxLen → (A' = none → cap' = 0) → Below B w w' → K (a.put o.dst (.slice A' N cap')) w') : o.wp Try.prog a w K Q := by
  subst hN
  obtain ⟨i0, hi, hz0, hz1, hz2⟩ := info_parts infoEv
  obtain ⟨v', w', hr, ho2, hg, -, hloc⟩ := run_append_own_at (P := Try.prog) w B 66 o.type 76 i0 _ 5 48 Try.underlying66 hi hz0 hz1 hz2 rfl (by decide) _ n (evs l) hown ⟨h, 0, none⟩ 1 c y.cells rfl (fun j u hu => by
    rw [addr_add, Nat.zero_add, cell_of_row _ _ _ _ _ _ hrow]; simpa using hu) (cells_one y) (by unfold maxLen; omega) (by omega) hbase
  have e : evs l ++ y.cells = evs (l ++ [y]) := by unfold evs; rw [List.flatMap_append]; simp
  rw [e] at ho2
  obtain ⟨A1, c1, rfl, e2, e3, e4⟩ := ro_slice ho2
  unfold Oper.wp execOp
  simp only [ho, resolve, invoke, builtin, Sem.run_bind, Sem.run_pure, Result.andThen_ok, List.map_toArray, List.map_cons, List.map_nil, hs, hx, hr]
  exact hk A1 c1 w' ho2 e2 e3 e4 ((Below.refl _ w).grown hg hbase (ro_base hown))
theorem ownE_less {w : World} {B B' n cap : Nat} {A : Option Addr} {l : List Ev} (h : OwnE w B A n cap l) (hB : B' ≤ B) : OwnE w B' A n cap l := by
  refine ⟨h.1, ?_⟩
  rcases h.2 with h1 | ⟨g, cap', cur, h1, hb, h2⟩
  · exact .inl h1
  · exact .inr ⟨g, cap', cur, h1, Nat.le_trans hB hb, h2⟩
/-- What log ends with. -/
def LgEnds (W : World) (l : List Ev) (e : Ending) (w' : World) : Prop := ∃ A n cap, e = .returned (.slice A n cap) ∧ n = l.length ∧ OwnE w' W.heap.size A n cap l ∧ Below W.heap.size W w'
set_option maxHeartbeats 4000000 in
theorem log_any (c : Cf) (h : c.Ok) (a : Option Addr) (n cp : Nat) (ps : List Pt) (hp : ∀ p ∈ ps, p.Ok) (most : Nat) (hn : n = ps.length) (hm : most ≤ 60) (W : World) (HA : Hid (PtAt W a ps)) :
    Calls Try.prog 39 #[c.v, .slice a n cp, .int .i64 most] W (LgEnds W (lgL c ps (min n most))) := by
  have HP := Lib.hid hp
  have HN := Lib.hid hn
  have HC := Lib.hid h
  have HLG := Lib.hid (lgL_succ c ps)
  have HB0 : Hid (Below (W.heap.size + 1) (cfW W c) (cfW W c)) := Lib.hid (Below.refl _ _)
  have HW0 : Hid (Below W.heap.size W (cfW W c)) := Lib.hid ((Below.refl _ _).alloc (Nat.le_refl _) _)
  obtain ⟨mm, hmm⟩ : ∃ mm, mm = min n most := ⟨_, rfl⟩
  rw [← hmm]
  have HMM : Hid (mm ≤ n ∧ mm ≤ most ∧ (n ≤ mm ∨ most ≤ mm)) := Lib.hid (by omega)
  clear hp hn h hmm
  go_enter Try.func39, Try.ntmps39
  go_wp2
  go_loopw [7, 8] (fun l i wr => ∃ (k cap : Nat) (A : Option Addr), k ≤ mm ∧ i = .int .i64 k ∧ l = .slice A k cap ∧ OwnE wr (W.heap.size + 1) A k cap (lgL c ps k) ∧ Below (W.heap.size + 1) (cfW W c) wr) (fun _ i _ => mm - (intOf i).toNat)
  case atStart => exact ⟨0, 0, none, Nat.zero_le _, rfl, rfl, World.ownsRow_nil _ _ _ 5, HB0.out⟩
  case round =>
    obtain ⟨k, cap, A, hk, rfl, rfl, ho, hb⟩ := hrel
    have HO := Lib.hid ho
    have HB := Lib.hid hb
    clear ho hb
    by_cases hlt : k < mm
    · have hl1 : (k : Int) < (n : Int) := by have := HMM.out; omega
      have hl2 : (k : Int) < (most : Int) := by have := HMM.out; omega
      have k60 : k ≤ 60 := by have := HMM.out; omega
      obtain ⟨p, hpk⟩ : ∃ p, ps[k]? = some p := ⟨ps[k]'(by have := HN.out; have := HMM.out; omega), List.getElem?_eq_getElem _⟩
      obtain ⟨gp, op, hap, hgp, hrp⟩ := ptr HA.out k p hpk
      subst hap
      have HRP : Hid ((cfW W c).rangeAt gp (op + k * 4) p.cells) := Lib.hid (zkeep hrp hgp HW0.out)
      have HGP : Hid (gp < W.heap.size + 1) := Lib.hid (by omega)
      have HTK : Hid (lgL c ps (k + 1) = lgL c ps k ++ [evPt c p k]) := Lib.hid (by
        have h2 := List.getElem?_eq_some_iff.1 hpk
        rw [HLG.out k, getElem!_pos ps k h2.1, h2.2])
      have HEV := Lib.hid (event_any p (HP.out p (List.mem_of_getElem? hpk)) c HC.out k (by omega))
      have HOD : Hid (OwnE wr.drew (W.heap.size + 1) A k cap (lgL c ps k)) := Lib.hid (ownE_below HO.out ((Below.refl _ _).drew) (Nat.le_refl _))
      clear hpk hgp hrp
      go_wp2
      refine wp_region_held_drew (S := fun w' => Below (W.heap.size + 1) (cfW W c) w') (by kernel_rfl) HB.out.drew (fun hHeld => ?_)
      have hO := HOD.out
      refine wpAnyH_take (i := 0) (v := .slice A k cap) rfl (by kernel_rfl) (by kernel_rfl) (by kernel_rfl) (fun _ _ _ h => h) (Or.inl ⟨by rfl, fun _ _ => rfl⟩) hHeld ?_
      try dsimp only
      try simp only [Act.put, List.getElem_toArray, List.getElem_cons_zero, List.getElem_cons_succ, List.setIfInBounds_toArray, List.set_cons_zero, List.set_cons_succ]
      refine wpAnyH_take (i := 1) (v := .slice (some ⟨gp, op, none⟩) n cp) rfl (by kernel_rfl) (by kernel_rfl) (by kernel_rfl) (fun _ _ _ h => h) (Or.inl ⟨by rfl, fun _ _ => rfl⟩) hHeld ?_
      try dsimp only
      try simp only [Act.put, List.getElem_toArray, List.getElem_cons_zero, List.getElem_cons_succ, List.setIfInBounds_toArray, List.set_cons_zero, List.set_cons_succ]
      refine wpAnyH_take (i := 2) (v := .int .i64 (k : Int)) rfl (by kernel_rfl) (by kernel_rfl) (by kernel_rfl) (fun _ _ _ h => h) (Or.inl ⟨by rfl, fun _ _ => rfl⟩) hHeld ?_
      try dsimp only
      try simp only [Act.put, List.getElem_toArray, List.getElem_cons_zero, List.getElem_cons_succ, List.setIfInBounds_toArray, List.set_cons_zero, List.set_cons_succ]
      refine wpAnyH_take (i := 3) (v := .pointer (some ⟨gp, op + k * 4, none⟩)) rfl (by kernel_rfl) (by kernel_rfl) (by kernel_rfl) (fun _ _ _ h => h) (Or.inl ⟨by rfl, fun w _ => by go_simp⟩) hHeld ?_
      try dsimp only
      try simp only [Act.put, List.getElem_toArray, List.getElem_cons_zero, List.getElem_cons_succ, List.setIfInBounds_toArray, List.set_cons_zero, List.set_cons_succ]
      refine wpAnyH_take (i := 4) (v := .agg #[.int .u8 (p.part : Int), .int .u8 (p.time : Int), .int .u8 (p.key : Int), .float .f64 p.val]) rfl (by kernel_rfl) (by kernel_rfl) (by kernel_rfl) (fun _ _ _ h => h) (yieldsIf_load_mid rfl 106 (.tmp 23) rfl gp (op + k * 4) rfl [.int .u8 (p.part : Int), .int .u8 (p.time : Int), .int .u8 (p.key : Int), .float .f64 p.val] _ (fun w hw => zkeep HRP.out HGP.out hw) uPt rfl (by kernel_rfl)) hHeld ?_
      try dsimp only
      try simp only [Act.put, List.getElem_toArray, List.getElem_cons_zero, List.getElem_cons_succ, List.setIfInBounds_toArray, List.set_cons_zero, List.set_cons_succ]
      refine wpAnyH_take (i := 5) (v := .agg #[.int .u8 (c.kind : Int), .int .i64 c.size, .int .i64 c.step, .int .i64 c.late, .int .i64 c.skew, .int .i64 c.parts, .int .u64 (c.cut : Int)]) rfl (by kernel_rfl) (by kernel_rfl) (by kernel_rfl) (fun _ _ _ h => h) (yieldsIf_row rfl 64 (.tmp 3) rfl W.heap.size rfl _ _ _ _ (fun w hw => (hw.block _ (by omega)).trans (heap_new W _)) uCf rfl (by kernel_rfl)) hHeld ?_
      try dsimp only
      try simp only [Act.put, List.getElem_toArray, List.getElem_cons_zero, List.getElem_cons_succ, List.setIfInBounds_toArray, List.set_cons_zero, List.set_cons_succ]
      refine wpAnyH_take (i := 6) (v := .int .i64 (k : Int)) rfl (by kernel_rfl) (by kernel_rfl) (by kernel_rfl) (fun _ _ _ h => h) (Or.inl ⟨by rfl, fun _ _ => rfl⟩) hHeld ?_
      try dsimp only
      try simp only [Act.put, List.getElem_toArray, List.getElem_cons_zero, List.getElem_cons_succ, List.setIfInBounds_toArray, List.set_cons_zero, List.set_cons_succ]
      refine wpAnyH_ready (rs := [7]) (by kernel_rfl) (by simp) (AllReadyH.cons rfl (fun K hK => ?_) AllReadyH.nil)
      go_simp
      refine (HEV.out _).mono ?_
      rintro e w9 ⟨rfl, hb9⟩
      replace hO := ownE_below hO hb9 (Nat.le_refl _)
      replace hHeld := hHeld.trans (hb9.mono (by have h9 := hHeld.size; simp at h9 ⊢; omega))
      clear hb9
      refine hK.out _ _ hHeld (fun hHeld => ?_)
      clear hK K
      try dsimp only
      try simp only [Act.put, List.getElem_toArray, List.getElem_cons_zero, List.getElem_cons_succ, List.setIfInBounds_toArray, List.set_cons_zero, List.set_cons_succ]
      refine wpAnyH_ready (rs := [8]) (by kernel_rfl) (by simp) (AllReadyH.cons rfl (fun K hK => ?_) AllReadyH.nil)
      go_simp
      refine hK.out _ _ (hHeld.alloc (by have h9 := hHeld.size; simp at h9; omega) _) (fun hHeld => ?_)
      clear hK K
      try dsimp only
      try simp only [Act.put, List.getElem_toArray, List.getElem_cons_zero, List.getElem_cons_succ, List.setIfInBounds_toArray, List.set_cons_zero, List.set_cons_succ]
      refine wpAnyH_ready (rs := [9]) (by kernel_rfl) (by simp) (AllReadyH.cons rfl (fun K hK => ?_) AllReadyH.nil)
      rw [if_pos (by rfl)]
      refine wp_append_ev1 (.tmp 20) (.tmp 28) rfl (W.heap.size + 1) A k cap (lgL c ps k) rfl (ownE_below hO ((Below.refl _ _).alloc (Nat.le_refl _) _) (Nat.le_refl _)) w9.heap.size 1 (evPt c p k) rfl (zheap_new' _ _ _ rfl) (k + 1) rfl (by omega) (by have h9 := hHeld.size; simp at h9; simp; omega) ?_
      intro A3 c3 w3 ho3 hc3 hm3 hn3 hb3
      have hb4 := hHeld.trans hb3
      refine hK.out _ _ hb4 (fun _ => ?_)
      clear hK K
      try dsimp only
      try simp only [Act.put, List.getElem_toArray, List.getElem_cons_zero, List.getElem_cons_succ, List.setIfInBounds_toArray, List.set_cons_zero, List.set_cons_succ]
      refine wpAnyH_take (i := 10) (v := .slice A3 (k + 1) c3) rfl (by kernel_rfl) (by kernel_rfl) (by kernel_rfl) (fun _ _ _ h => h) (Or.inl ⟨by rfl, fun _ _ => rfl⟩) hb4 ?_
      try dsimp only
      try simp only [Act.put, List.getElem_toArray, List.getElem_cons_zero, List.getElem_cons_succ, List.setIfInBounds_toArray, List.set_cons_zero, List.set_cons_succ]
      refine wpAnyH_done (by kernel_rfl) ?_ _
      have HO3 := Lib.hid ho3; have HB3 := Lib.hid hb4
      clear ho3 hc3 hm3 hn3 hb3 hb4 hO hHeld
      go_wp2
      go_roundw
      case rel => exact ⟨k + 1, c3, A3, hlt, by go_num, rfl, by rw [HTK.out]; exact HO3.out, HB3.out⟩
      case measure => simp [intOf]; omega
    · obtain rfl : k = mm := by omega
      by_cases hl1 : k < n
      · have hl2 : ¬ ((k : Int) < (most : Int)) := by have := HMM.out; omega
        go_wp2
        go_ret
        exact ⟨A, k, cap, rfl, (lgL_len _ _ _).symm, ownE_less HO.out (by omega), HW0.out.trans (HB.out.mono (by omega))⟩
      · go_wp2
        go_ret
        exact ⟨A, k, cap, rfl, (lgL_len _ _ _).symm, ownE_less HO.out (by omega), HW0.out.trans (HB.out.mono (by omega))⟩
end Go.Proofs.Ytbimfopbilcdgaa

set_option linter.unusedSimpArgs false
set_option linter.unusedVariables false
set_option maxRecDepth 8000
namespace Go.Proofs.Ytbimfopbilcdgaa
open Go.ChangeShapes Go.WideShapes Go.ChangeAt Go.RowKit
section
variable {H : Type} {enc : TypeId × Value → H} {W : World} {base : Nat} {spare : Nat → Bool} {held : Bool}
theorem u8_lit {n : Int} (w : (Lit.int .u8 n).wf = true) : 0 ≤ n ∧ n < 256 := by
  have h : 0 ≤ n ∧ n ≤ 255 := by simpa [Lit.wf, IntKind.min, IntKind.max, IntKind.signed, IntKind.bits] using w
  omega
/-- The law's Conf: seven small numbers. -/
structure Cn where
  a : Int
  b : Int
  c : Int
  d : Int
  e : Int
  f : Int
  g : Int
abbrev Cn.v (x : Cn) : Value := .agg #[.int .u8 x.a, .int .u8 x.b, .int .u8 x.c, .int .u8 x.d, .int .u8 x.e, .int .u8 x.f, .int .u8 x.g]
structure Cn.Ok (x : Cn) : Prop where
  a : 0 ≤ x.a ∧ x.a < 256
  b : 0 ≤ x.b ∧ x.b < 256
  c : 0 ≤ x.c ∧ x.c < 256
  d : 0 ≤ x.d ∧ x.d < 256
  e : 0 ≤ x.e ∧ x.e < 256
  f : 0 ≤ x.f ∧ x.f < 256
  g : 0 ≤ x.g ∧ x.g < 256
theorem config_cn (x : Cn) (h : x.Ok) (w : World) : Calls Try.prog 38 #[x.v] w (CfEnds w) :=
  config_any x.a x.b x.c x.d x.e x.f x.g h.a.1 h.a.2 h.b.1 h.b.2 h.c.1 h.c.2 h.d.1 h.d.2 h.e.1 h.e.2 h.f.1 h.f.2 h.g.1 h.g.2 w
theorem conf_cells {fuel : Nat} {cs : List Value} {y : DataW H × List MemPlace} (h : DataW.trod enc Try.prog W base spare held fuel 60 cs = some y) : ∃ x : Cn, cs = [.int .u8 x.a, .int .u8 x.b, .int .u8 x.c, .int .u8 x.d, .int .u8 x.e, .int .u8 x.f, .int .u8 x.g] ∧ x.Ok := by
  obtain ⟨xs, n, -, -, hl, hxl, hg⟩ := DataW.trod_struct Try.underlying60 h
  have hC : Try.prog.cellsOf 60 = 7 := by kernel_rfl
  have hx5 : xs.length = 7 := hxl
  rw [hC] at hl
  have one : ∀ (i : Nat) (c : Value) (f : Field), cs[i]? = some c → i < 7 → f.offset = i → Try.prog.cellsOf f.type = 1 → DataW.trod enc Try.prog W base spare held n f.type ((cs.drop f.offset).take (Try.prog.cellsOf f.type)) = xs[i]? → ∃ y, DataW.trod enc Try.prog W base spare held n f.type [c] = some y := by
    intro i c f hc hi ho hk hf
    rw [ho, hk] at hf
    have e : (cs.drop i).take 1 = [c] := by
      obtain ⟨h1, h2⟩ := List.getElem?_eq_some_iff.1 hc
      rw [List.drop_eq_getElem_cons h1, h2]; rfl
    rw [e, List.getElem?_eq_getElem (by omega)] at hf
    exact ⟨_, hf⟩
  match cs, hl with
  | [c0, c1, c2, c3, c4, c5, c6], _ =>
    obtain ⟨y0, t0⟩ := one 0 c0 _ rfl (by decide) rfl (by kernel_rfl) (hg 0 _ rfl)
    obtain ⟨y1, t1⟩ := one 1 c1 _ rfl (by decide) rfl (by kernel_rfl) (hg 1 _ rfl)
    obtain ⟨y2, t2⟩ := one 2 c2 _ rfl (by decide) rfl (by kernel_rfl) (hg 2 _ rfl)
    obtain ⟨y3, t3⟩ := one 3 c3 _ rfl (by decide) rfl (by kernel_rfl) (hg 3 _ rfl)
    obtain ⟨y4, t4⟩ := one 4 c4 _ rfl (by decide) rfl (by kernel_rfl) (hg 4 _ rfl)
    obtain ⟨y5, t5⟩ := one 5 c5 _ rfl (by decide) rfl (by kernel_rfl) (hg 5 _ rfl)
    obtain ⟨y6, t6⟩ := one 6 c6 _ rfl (by decide) rfl (by kernel_rfl) (hg 6 _ rfl)
    obtain ⟨n0, e0, -, w0⟩ := DataW.trod_int (k := .u8) Try.underlying5 t0
    obtain ⟨n1, e1, -, w1⟩ := DataW.trod_int (k := .u8) Try.underlying5 t1
    obtain ⟨n2, e2, -, w2⟩ := DataW.trod_int (k := .u8) Try.underlying5 t2
    obtain ⟨n3, e3, -, w3⟩ := DataW.trod_int (k := .u8) Try.underlying5 t3
    obtain ⟨n4, e4, -, w4⟩ := DataW.trod_int (k := .u8) Try.underlying5 t4
    obtain ⟨n5, e5, -, w5⟩ := DataW.trod_int (k := .u8) Try.underlying5 t5
    obtain ⟨n6, e6, -, w6⟩ := DataW.trod_int (k := .u8) Try.underlying5 t6
    cases e0; cases e1; cases e2; cases e3; cases e4; cases e5; cases e6
    exact ⟨⟨n0, n1, n2, n3, n4, n5, n6⟩, rfl, ⟨u8_lit w0, u8_lit w1, u8_lit w2, u8_lit w3, u8_lit w4, u8_lit w5, u8_lit w6⟩⟩
theorem open_conf {r : Reach} {b0 : Nat} {v : Value} {d : DataW H} {p : List MemPlace} (hv : Value.okWide Try.prog W r b0 60 v) (h : DataW.Trod enc Try.prog W base spare held 60 v d p) : ∃ x : Cn, v = x.v ∧ x.Ok := by
  obtain ⟨cs, rfl, -⟩ := okWide_struct Try.underlying60 hv
  obtain ⟨fuel, hf⟩ := h
  obtain ⟨x, hx, hb⟩ := conf_cells hf
  refine ⟨x, ?_, hb⟩
  obtain ⟨l⟩ := cs
  have e : l = [.int .u8 x.a, .int .u8 x.b, .int .u8 x.c, .int .u8 x.d, .int .u8 x.e, .int .u8 x.f, .int .u8 x.g] := by simpa [Value.cells] using hx
  rw [e]
theorem pt_cells {fuel : Nat} {cs : List Value} {y : DataW H × List MemPlace} (h : DataW.trod enc Try.prog W base spare held fuel 106 cs = some y) : ∃ x : Pt, cs = x.cells ∧ x.Ok := by
  obtain ⟨xs, n, -, -, hl, hxl, hg⟩ := DataW.trod_struct Try.underlying106 h
  have hC : Try.prog.cellsOf 106 = 4 := by kernel_rfl
  have hx5 : xs.length = 4 := hxl
  rw [hC] at hl
  have one : ∀ (i : Nat) (c : Value) (f : Field), cs[i]? = some c → i < 4 → f.offset = i → Try.prog.cellsOf f.type = 1 → DataW.trod enc Try.prog W base spare held n f.type ((cs.drop f.offset).take (Try.prog.cellsOf f.type)) = xs[i]? → ∃ y, DataW.trod enc Try.prog W base spare held n f.type [c] = some y := by
    intro i c f hc hi ho hk hf
    rw [ho, hk] at hf
    have e : (cs.drop i).take 1 = [c] := by
      obtain ⟨h1, h2⟩ := List.getElem?_eq_some_iff.1 hc
      rw [List.drop_eq_getElem_cons h1, h2]; rfl
    rw [e, List.getElem?_eq_getElem (by omega)] at hf
    exact ⟨_, hf⟩
  match cs, hl with
  | [c0, c1, c2, c3], _ =>
    obtain ⟨y0, t0⟩ := one 0 c0 _ rfl (by decide) rfl (by kernel_rfl) (hg 0 _ rfl)
    obtain ⟨y1, t1⟩ := one 1 c1 _ rfl (by decide) rfl (by kernel_rfl) (hg 1 _ rfl)
    obtain ⟨y2, t2⟩ := one 2 c2 _ rfl (by decide) rfl (by kernel_rfl) (hg 2 _ rfl)
    obtain ⟨y3, t3⟩ := one 3 c3 _ rfl (by decide) rfl (by kernel_rfl) (hg 3 _ rfl)
    obtain ⟨n0, e0, -, w0⟩ := DataW.trod_int (k := .u8) Try.underlying5 t0
    obtain ⟨n1, e1, -, w1⟩ := DataW.trod_int (k := .u8) Try.underlying5 t1
    obtain ⟨n2, e2, -, w2⟩ := DataW.trod_int (k := .u8) Try.underlying5 t2
    obtain ⟨b3, e3, w3⟩ := trod_float' Try.underlying74 t3
    cases e0; cases e1; cases e2; cases e3
    have h0 := u8_lit w0
    have h1 := u8_lit w1
    have h2 := u8_lit w2
    refine ⟨⟨n0.toNat, n1.toNat, n2.toNat, b3⟩, ?_, ⟨by show n0.toNat < _; omega, by show n1.toNat < _; omega, by show n2.toNat < _; omega, by simpa [Lit.wf] using w3⟩⟩
    show _ = [Value.int .u8 ((n0.toNat : Nat) : Int), .int .u8 ((n1.toNat : Nat) : Int), .int .u8 ((n2.toNat : Nat) : Int), _]
    rw [Int.toNat_of_nonneg h0.1, Int.toNat_of_nonneg h1.1, Int.toNat_of_nonneg h2.1]
end
section
variable {H : Type} {enc : TypeId × Value → H} {W : World}
theorem open_puts {b0 : Nat} {r : Reach} {v : Value} {d : DataW H} {ps : List MemPlace} (hok : Value.okWide Try.prog W r b0 61 v) (hd : DataW.Trod enc Try.prog W 0 (fun _ => true) true 61 v d ps) :
    ∃ (a : Option Addr) (l : List Pt) (cap : Nat), v = .slice a l.length cap ∧ l.length ≤ cap ∧ cap ≤ maxLen ∧ (∀ x ∈ l, x.Ok) ∧ PtAt W a l := by
  have hu := Try.underlying61
  have hC : Try.prog.cellsOf 106 = 4 := by kernel_rfl
  obtain ⟨fuel, hf⟩ := hd
  obtain ⟨a, len, cap, rfl⟩ := okWide_slice hu hok
  rcases Deep.open_slice hu hf with ⟨hcs, -⟩ | ⟨a', len', cap', m, n, D, Pl, hcs, -, hl, hm, hmm, hx, hcell⟩
  · simp [Value.cells] at hcs
    obtain ⟨rfl, rfl, rfl⟩ := hcs
    exact ⟨none, [], 0, rfl, Nat.le_refl _, by unfold maxLen; omega, fun x hx => (by cases hx), fun k x hx => by simp [pts] at hx⟩
  · simp [Value.cells] at hcs
    obtain ⟨rfl, rfl, rfl⟩ := hcs
    simp only [if_true] at hmm
    subst hmm
    have hspot : a'.spot = none := by
      simp only [Value.okWide, hu, Cell.okWide, Cell.ok] at hok
      exact hok.2.2.2.1
    obtain ⟨g, off, s⟩ := a'
    obtain rfl : s = none := hspot
    have hE : ∀ i, i < m → ∃ x : Pt, W.cells? 0 ((⟨g, off, none⟩ : Addr).add (i * 4)) 4 = some x.cells ∧ x.Ok := fun i hi => by
      obtain ⟨cs', h1, h2⟩ := hcell i hi
      rw [hC] at h1
      obtain ⟨x, rfl, hx⟩ := pt_cells h2
      exact ⟨x, h1, hx⟩
    obtain ⟨E, hE⟩ := Deep.choose_lt (α := Pt) (p := fun i x => W.cells? 0 ((⟨g, off, none⟩ : Addr).add (i * 4)) 4 = some x.cells ∧ x.Ok) hE
    refine ⟨some ⟨g, off, none⟩, (List.range len).map E, m, by simp, by simpa using hl, hm, fun x hx => ?_, fun k v hv => ?_⟩
    · obtain ⟨i, hi, rfl⟩ := List.mem_map.1 hx
      exact (hE i (by have := List.mem_range.1 hi; omega)).2
    · have hk : k < len * 4 := by
        have := (List.getElem?_eq_some_iff.1 hv).1
        rw [pts_length] at this; simpa using this
      have e := pts_get ((List.range len).map E) (k / 4) (k % 4) (by omega)
      rw [show k / 4 * 4 + k % 4 = k by omega, hv, List.getElem?_map, List.getElem?_range (by omega)] at e
      obtain ⟨h0, h1, h2⟩ := World.cells?_some (hE (k / 4) (by omega)).1
      have hg := World.cells?_block (hE (k / 4) (by omega)).1 (by decide)
      rw [Addr.add_lit] at hg
      refine ⟨g, off, rfl, hg, ?_⟩
      have h3 := h2 (k % 4) (by omega)
      rw [Addr.add_lit, Addr.add_lit, Nat.add_assoc, show k / 4 * 4 + k % 4 = k by omega] at h3
      rw [h3]; exact e.symm
end
end Go.Proofs.Ytbimfopbilcdgaa

set_option linter.unusedSimpArgs false
set_option linter.unusedVariables false
set_option maxRecDepth 8000
namespace Go.Proofs.Ytbimfopbilcdgaa
open Go.RowKit Go.Sort Sm

theorem k_vals (a b : ByteArray) : cmpK a b = -1 ∨ cmpK a b = 0 ∨ cmpK a b = 1 := by
  unfold cmpK
  rw [cmp_less]
  split
  · exact .inr (.inl rfl)
  · split
    · exact .inl rfl
    · exact .inr (.inr rfl)
theorem i_vals (a b : Int) : cmpI a b = -1 ∨ cmpI a b = 0 ∨ cmpI a b = 1 := by
  unfold cmpI
  split
  · exact .inl rfl
  · split
    · exact .inr (.inr rfl)
    · exact .inr (.inl rfl)
theorem z_vals (x y : ZP) : zCmp x y = -1 ∨ zCmp x y = 0 ∨ zCmp x y = 1 := by
  unfold zCmp or3
  have h1 := k_vals x.key y.key
  have h2 := i_vals x.s y.s
  have h3 := i_vals x.e y.e
  split
  · exact h1
  · split
    · exact h2
    · exact h3
theorem z_less {x y : ZP} (h : ZL x y) : zCmp x y = -1 := by
  have h1 := (zl_iff x y).2 h
  have h2 := z_vals x y
  omega
/-- No group is empty. -/
def GrNE (gs : List Grp) : Prop := ∀ x ∈ gs, 1 ≤ x.vs.length
theorem grNE_putF {gs : List Grp} {g : Grp} (h : GrNE gs) (hg : 1 ≤ g.vs.length) : GrNE (putF gs g) := by
  induction gs with
  | nil => intro x hx; simp [putF] at hx; subst hx; exact hg
  | cons a t ih =>
    have ht : GrNE t := fun x hx => h x (by simp [hx])
    rw [putF]
    split
    · intro x hx
      rcases List.mem_cons.1 hx with rfl | hx
      · exact h x (by simp)
      · exact ih ht x hx
    · split
      · intro x hx
        rcases List.mem_cons.1 hx with rfl | hx
        · show 1 ≤ (a.vs ++ g.vs).length
          rw [List.length_append]; omega
        · exact ht x hx
      · intro x hx
        rcases List.mem_cons.1 hx with rfl | hx
        · exact hg
        · exact h x hx
theorem grNE_putL {ses : Bool} {gs : List Grp} {g : Grp} (h : GrNE gs) (hg : 1 ≤ g.vs.length) : GrNE (putL ses gs g) := by
  rcases hl : lastB ses gs g.p with _ | _
  · rw [putL_F _ _ _ hl]; exact grNE_putF h hg
  · rcases snoc_cases gs with rfl | ⟨r, y, rfl⟩
    · cases hl
    · rw [putL_last _ _ _ _ hl]
      intro x hx
      rcases List.mem_append.1 hx with hx | hx
      · exact h x (by simp [hx])
      · simp at hx; subst hx
        show 1 ≤ (y.vs ++ g.vs).length
        rw [List.length_append]; omega
theorem grNE_putA {ses : Bool} {its : List Grp} : ∀ {gs : List Grp}, GrNE gs → GrNE its → GrNE (putA ses gs its) := by
  induction its with
  | nil => intro gs h _; exact h
  | cons g r ih =>
    intro gs h hi
    rw [putA_cons]
    exact ih (grNE_putL h (hi g (by simp))) (fun x hx => hi x (by simp [hx]))
theorem its_one (c : Cf) (l : List Ev) : ∀ g ∈ itsL c l, g.vs.length = 1 := by
  intro g hg
  obtain ⟨x, hx, hg⟩ := List.mem_flatMap.1 hg
  unfold itE at hg
  obtain ⟨w, -, rfl⟩ := List.mem_map.1 hg
  rfl
theorem grps_ne (c : Cf) (l : List Ev) : GrNE (grps c l) := grNE_putA (fun x hx => by cases hx) (fun x hx => by rw [its_one c _ x hx]; exact Nat.le_refl _)
/-- How many windows events have. -/
def cntW (c : Cf) (l : List Ev) : Nat := (itsL c l).length
theorem cntW_snoc (c : Cf) (l : List Ev) (x : Ev) : cntW c (l ++ [x]) = cntW c l + c.n x.time := by
  unfold cntW
  rw [itsL_append, itsL_cons, List.length_append, List.length_append, itE_len]; simp [itsL]
theorem cntW_perm (c : Cf) {l m : List Ev} (h : l.Perm m) : cntW c l = cntW c m := by
  unfold cntW itsL
  exact (h.flatMap_right _).length_eq
theorem grps_tot {c : Cf} (h : c.Ok) (l : List Ev) : tot (grps c l) = cntW c l := by
  unfold grps grpsS
  rw [tot_putA, (itsL_len h _).2]
  show tot [] + cntW c (isort ltE l) = _
  rw [cntW_perm c (zisort_perm l)]
  show 0 + _ = _
  omega
theorem cntW_le {c : Cf} (h : c.Ok) (l : List Ev) : cntW c l ≤ l.length * 16 := (itsL_len h l).1
theorem tot_drop (gs : List Grp) (k : Nat) (x : Grp) (h : gs[k]? = some x) : tot (gs.drop k) = x.vs.length + tot (gs.drop (k + 1)) := by
  have h2 := List.getElem?_eq_some_iff.1 h
  rw [List.drop_eq_getElem_cons h2.1, h2.2, tot_cons]
theorem srt_at {gs : List Grp} (h : Srt gs) {i j : Nat} {x y : Grp} (hx : gs[i]? = some x) (hy : gs[j]? = some y) (hij : i < j) : ZL x.p y.p := by
  have h1 := List.getElem?_eq_some_iff.1 hx
  have h2 := List.getElem?_eq_some_iff.1 hy
  have h3 := List.pairwise_iff_getElem.1 h i j h1.1 h2.1 hij
  rw [h1.2, h2.2] at h3
  exact h3
end Go.Proofs.Ytbimfopbilcdgaa
