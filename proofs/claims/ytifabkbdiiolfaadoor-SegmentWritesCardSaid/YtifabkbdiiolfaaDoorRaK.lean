/-
  Layer column: the document's own Uint, Int, width.
-/
import Derived.Test.YtifabkbdiiolfaaDoorCdK
set_option linter.unusedSimpArgs false
set_option linter.unusedVariables false
set_option maxRecDepth 8000
namespace Go.Proofs.YtifabkbdiiolfaaDoor
open Go.RowKit Go.WideShapes Col
namespace Col
/-- The number of some bytes. -/
def vlb : List Nat → Nat
 | [] => 0
 | b :: r => b + 256 * vlb r
/-- w bits from a place on. -/
def bitsAt (V at' w : Nat) : Nat := V / 2 ^ at' % 2 ^ w
end Col
end Go.Proofs.YtifabkbdiiolfaaDoor

namespace Go.Proofs.YtifabkbdiiolfaaDoor
open Go.RowKit Go.WideShapes Col
namespace Col
theorem wrap64_wf' (n : Int) : Wf64 (wrap64 n) := by unfold Wf64 wrap64; omega
def dstep (s : Int × List Nat) : Option (Int × (Int × List Nat)) := (zP s.2).map fun p => (wrap64 (s.1 + p.1), (wrap64 (s.1 + p.1), p.2))
end Col
theorem Rd.high {w w' : World} {g : Nat} {q : List Nat} {S : Nat → Prop} (h : Rd w g q) (hk : Kept S w w') (hS : ∀ k, S k → g < k) : Rd w' g q := by
 obtain ⟨A, C, h⟩ := h
 exact ⟨A, C, h.keep hk (fun e => by have := hS g e; omega) fun a ha h0 hs => by have := h.low a ha h0; have := hS _ hs; omega⟩
theorem Rd.glt {w : World} {g : Nat} {q : List Nat} (h : Rd w g q) : g < w.heap.size := by obtain ⟨A, C, h⟩ := h; exact h.lt
/-- A reader, and how many bytes are left at most. -/
def RdM (g : Nat) (q : List Nat) (w : World) : Prop := Rd w g q ∧ q.length ≤ 1099511627776
/-- What readDelta's function stands on. -/
structure DS (g ah bx : Nat) (s : Int × List Nat) (w : World) : Prop where
 rd : RdM g s.2 w
 ahead : w.heap[ah]? = some (.cells #[.int .i64 s.1] 2 (0, 0))
 box : w.heap[bx]? = some (.cells #[.pointer (some ⟨g, 0, none⟩)] 81 (0, 0))
 n1 : g < ah
 n2 : g < bx
 n3 : ah ≠ bx
theorem DS.keep {g ah bx : Nat} {s : Int × List Nat} {w w' : World} {S : Nat → Prop} (h : DS g ah bx s w) (hk : Kept S w w') (hS : ∀ k, S k → w.heap.size ≤ k ∨ (g < k ∧ k ≠ ah ∧ k ≠ bx)) : DS g ah bx s w' := by
 have hg := h.rd.1.glt
 have ha := (Array.getElem?_eq_some_iff.1 h.ahead).1
 have hb := (Array.getElem?_eq_some_iff.1 h.box).1
 exact ⟨⟨h.rd.1.high hk fun k hs => by have := hS k hs; omega, h.rd.2⟩, hk.heap h.ahead fun e => by have := hS _ e; omega, hk.heap h.box fun e => by have := hS _ e; omega, h.n1, h.n2, h.n3⟩
abbrev Two (g ah : Nat) : Nat → Prop := fun k => k = g ∨ k = ah
theorem one_two {g ah : Nat} {w w' : World} (h : Kept (Only g) w w') : Kept (Two g ah) w w' := h.mono fun k hk => .inl (.inl hk)
theorem DS.c0 {g ah bx : Nat} {s : Int × List Nat} {w : World} (h : DS g ah bx s w) : w.cell? ⟨ah, 0, none⟩ = some (.int .i64 s.1) := by rw [cell_of_row _ _ _ _ _ _ h.ahead]; rfl
theorem DS.drew {g ah bx : Nat} {s : Int × List Nat} {w : World} (h : DS g ah bx s w) : DS g ah bx s w.drew := h.keep (S := fun _ => False) ((Kept.refl _ _).drew) fun k hk => hk.elim
/-- Behind the reading, and the writing. -/
theorem DS.step {g ah bx : Nat} {a x : Int} {q r : List Nat} {w w1 : World} (h : DS g ah bx (a, q) w) (hr : Rd w1 g r) (hl : r.length ≤ q.length) (hk : Kept (Only g) w w1) : DS g ah bx (x, r) (w1.setCell ⟨ah, 0, none⟩ (.int .i64 x)) ∧ Kept (Two g ah) w (w1.setCell ⟨ah, 0, none⟩ (.int .i64 x)) := by
 have hka : Kept (fun k => k = ah) w1 (w1.setCell ⟨ah, 0, none⟩ (.int .i64 x)) := (Kept.refl _ _).setCell _ _ (.inl rfl)
 refine ⟨⟨⟨hr.high hka fun k hk => by have hk : k = ah := hk; have := h.n1; omega, Nat.le_trans hl h.rd.2⟩, ?_, (hka.heap (hk.heap h.box fun e => by have e : bx = g := e; have := h.n2; omega) fun e => h.n3 e.symm), h.n1, h.n2, h.n3⟩, (one_two hk).setCell _ _ (.inl (.inr rfl))⟩
 have h1 := hk.heap h.ahead fun e => by have e : ah = g := e; have := h.n1; omega
 rw [World.setCell]; simp [Array.getElem?_modify, h1]
end Go.Proofs.YtifabkbdiiolfaaDoor

namespace Go.Proofs.YtifabkbdiiolfaaDoor
open Go.RowKit Go.WideShapes Col
namespace Col
def rdDelta (n : Nat) (q : List Nat) : Option (List Int × List Nat) := (runS dstep n (0, q)).map fun p => (p.1, p.2.2)
/-- Numbers read by their runs. -/
def rruns : Nat → List Nat → Option (List Int × List Nat)
 | 0, q => some ([], q)
 | m + 1, q => (zP q).bind fun p => (uP m p.2).bind fun r => (rruns (m - r.1) r.2).map fun t => (List.replicate (r.1 + 1) p.1 ++ t.1, t.2)
termination_by m => m
decreasing_by omega
end Col
theorem OwnI.more {w : World} {B n cap : Nat} {A : Option Addr} {l : List Int} {B' : Nat} (h : OwnI w B A n cap l) (hB : B' ≤ B) : OwnI w B' A n cap l := by
 refine ⟨⟨h.1.1, ?_⟩, h.2⟩
 rcases h.1.2 with h1 | ⟨g, cap', cur, h1, hb, h2⟩
 ·exact .inl h1
 ·exact .inr ⟨g, cap', cur, h1, Nat.le_trans hB hb, h2⟩
theorem ListEnds.lift {σ : Type} {g : Nat} {Sw : Nat → Prop} {St : σ → World → Prop} {o : Option (List Int × σ)} {w w2 w' : World} {e : Ending} (h : ListEnds g Sw St o w2 e w') (hb : Kept (Only g) w w2) (f : σ → List Nat) (hSt : ∀ s w', St s w' → RdM g (f s) w') (hS : ∀ k, Sw k → k = g ∨ w.heap.size ≤ k) :
  ListEnds g (Only g) (RdM g) (o.map fun p => (p.1, f p.2)) w e w' := by
 rcases o with _ | p
 ·obtain ⟨h1, h2, h3⟩ := h
  exact ⟨h1, h2, hb.trans' h3 hS⟩
 ·obtain ⟨⟨A, n, cap, he, ho⟩, h2, h3⟩ := h
  exact ⟨⟨A, n, cap, he, ho.more hb.size⟩, hSt _ _ h2, hb.trans' h3 hS⟩
theorem RdM.high {g : Nat} {q : List Nat} {w w' : World} {S : Nat → Prop} (h : RdM g q w) (hk : Kept S w w') (hS : ∀ k, S k → g < k) : RdM g q w' := ⟨h.1.high hk hS, h.2⟩
end Go.Proofs.YtifabkbdiiolfaaDoor

namespace Go.Proofs.YtifabkbdiiolfaaDoor
open Go.RowKit Go.WideShapes Col
namespace Col
def atI (i W : Nat) : Int := (i : Int) * (W : Int) - (W : Int)
theorem atI_next (i W : Nat) : atI (i + 1) W = ((i * W : Nat) : Int) := by unfold atI; rw [Int.natCast_mul, Int.natCast_add, Int.add_mul]; simp
/-- The i-th of some packed numbers. -/
def pval (W V : Nat) (mn : Int) (i : Nat) : Int := wrap64 (mn + IntKind.i64.wrap ((bitsAt V (i * W) W : Nat) : Int))
end Col
attribute [irreducible] atI
structure PS (g ca cw cl cp W K C V : Nat) (A : Option Addr) (mn : Int) (s : Nat × List Nat) (w : World) : Prop where
 rd : RdM g s.2 w
 ra : w.heap[ca]? = some (.cells #[.int .i64 (atI s.1 W)] 3 (0, 0))
 rw : w.heap[cw]? = some (.cells #[.int .i64 (W : Int)] 3 (0, 0))
 rl : w.heap[cl]? = some (.cells #[.int .i64 mn] 2 (0, 0))
 rp : w.heap[cp]? = some (.cells #[.slice A K C] 24 (0, 0))
 bytes : ByAt w A (leb K V)
 low : ∀ a, A = some a → 0 < (leb K V).length → a.block < g
 n1 : g < ca
 n2 : g < cw
 n3 : g < cl
 n4 : g < cp
 n5 : ca ≠ cw
 n6 : ca ≠ cl
 n7 : ca ≠ cp
section
variable {g ca cw cl cp W K C V : Nat} {A : Option Addr} {mn : Int} {s : Nat × List Nat} {w w' : World}
theorem PS.keep {S : Nat → Prop} (h : PS g ca cw cl cp W K C V A mn s w) (hk : Kept S w w') (hS : ∀ k, S k → g < k ∧ k ≠ ca ∧ k ≠ cw ∧ k ≠ cl ∧ k ≠ cp) : PS g ca cw cl cp W K C V A mn s w' :=
 ⟨h.rd.high hk fun k hs => (hS k hs).1, hk.heap h.ra fun e => (hS _ e).2.1 rfl, hk.heap h.rw fun e => (hS _ e).2.2.1 rfl, hk.heap h.rl fun e => (hS _ e).2.2.2.1 rfl, hk.heap h.rp fun e => (hS _ e).2.2.2.2 rfl,
  h.bytes.kept hk fun a ha h0 hs => by have := h.low a ha h0; have := (hS _ hs).1; omega, h.low, h.n1, h.n2, h.n3, h.n4, h.n5, h.n6, h.n7⟩
theorem PS.put {i : Nat} {r : List Nat} (h : PS g ca cw cl cp W K C V A mn (i, r) w) : PS g ca cw cl cp W K C V A mn (i + 1, r) (w.setCell ⟨ca, 0, none⟩ (.int .i64 ((i * W : Nat) : Int))) := by
 have hk : Kept (fun k => k = ca) w (w.setCell ⟨ca, 0, none⟩ (.int .i64 ((i * W : Nat) : Int))) := (Kept.refl _ _).setCell _ _ (.inl rfl)
 refine ⟨h.rd.high hk fun k hs => by have hs : k = ca := hs; have := h.n1; omega, ?_, hk.heap h.rw fun e => h.n5 e.symm, hk.heap h.rl fun e => h.n6 e.symm, hk.heap h.rp fun e => h.n7 e.symm, h.bytes.kept hk fun a ha h0 hs => by have := h.low a ha h0; have := h.n1; have hs : a.block = ca := hs; omega, h.low, h.n1, h.n2, h.n3, h.n4, h.n5, h.n6, h.n7⟩
 have h1 := h.ra
 rw [World.setCell, atI_next]; simp [Array.getElem?_modify, h1]
end
end Go.Proofs.YtifabkbdiiolfaaDoor

namespace Go.Proofs.YtifabkbdiiolfaaDoor
open Go.RowKit Go.WideShapes Col
namespace Col
/-- Packed numbers read. -/
def rpk2 (n : Nat) (mn : Int) : List Nat → Option (List Int × List Nat)
 | [] => none
 | W :: r => if W ≤ 64 ∧ (n * W + 7) / 8 ≤ r.length ∧ vlb (r.take ((n * W + 7) / 8)) < 2 ^ (n * W) then some ((List.range n).map (pval W (vlb (r.take ((n * W + 7) / 8))) mn), r.drop ((n * W + 7) / 8)) else none
def rpk (n : Nat) (q : List Nat) : Option (List Int × List Nat) := if n = 0 then some ([], q) else (zP q).bind fun p => rpk2 n p.1 p.2
end Col
end Go.Proofs.YtifabkbdiiolfaaDoor

namespace Go.Proofs.YtifabkbdiiolfaaDoor
open Go.RowKit Go.WideShapes Col
namespace Col
def rW (way n : Nat) (q : List Nat) : Option (List Int × List Nat) := if way = 0 then runS zP n q else if way = 1 then rdDelta n q else if way = 2 then rruns n q else if way = 3 then rpk n q else none
/-- Whole numbers read, in whatever way they were laid. -/
def rI : List Nat → Option (List Int × List Nat)
 | [] => none
 | way :: q => (uP 4096 q).bind fun p => rW way p.1 p.2
end Col
theorem ListEnds.up {g : Nat} {o : Option (List Int × List Nat)} {w w2 w' : World} {e : Ending} (h : ListEnds g (Only g) (RdM g) o w2 e w') (hb : Kept (Only g) w w2) : ListEnds g (Only g) (RdM g) o w e w' := by
 have := h.lift hb (fun s => s) (fun s w' h => h) (fun k hk => .inl hk)
 rcases o with _ | p <;> exact this
/-- The reading of a list, all of it. -/
def riL (q : List Nat) : Option (List Int) := match rI q with
 | some (l, []) => some l
 | _ => none
theorem OwnI.keptG {w w' : World} {B n cap g : Nat} {A : Option Addr} {l : List Int} (h : OwnI w B A n cap l) (hk : Kept (Only g) w w') (hne : g < B) : OwnI w' B A n cap l :=
 ⟨h.1.kept (row := some g) ⟨hk.os, hk.tape, hk.output, hk.size, fun k hk' hn => hk.block k hk' (fun e => hn (by rw [show k = g from e]))⟩ (by
  have hb := h.base
  rcases A with _ | a
  ·simp [Value.ownBlock]
  ·have := hb a.block rfl
   simp [Value.ownBlock]; omega), h.2⟩
/-- What the list's cell holds behind the reading. -/
def RdL (q : List Nat) (cl B : Nat) (b : Bool) (w : World) : Prop := match b with
 | true => ∃ A n cap l, riL q = some l ∧ w.heap[cl]? = some (.cells #[.slice A n cap] 68 (0, 0)) ∧ OwnI w B A n cap l
 | false => riL q = none
theorem RdL.keep {q : List Nat} {cl B g : Nat} {b : Bool} {w w' : World} (h : RdL q cl B b w) (hk : Kept (Only g) w w') (h1 : cl ≠ g) (h2 : g < B) : RdL q cl B b w' := by
 cases b with
 | false => exact h
 | true =>
  obtain ⟨A, n, cap, l, e, hr, ho⟩ := h
  exact ⟨A, n, cap, l, e, hk.heap hr fun e => h1 e, ho.keptG hk h2⟩
theorem RdL.less {q : List Nat} {cl B B' : Nat} {b : Bool} {w : World} (h : RdL q cl B b w) (hB : B' ≤ B) : RdL q cl B' b w := by
 cases b with
 | false => exact h
 | true =>
  obtain ⟨A, n, cap, l, e, hr, ho⟩ := h
  exact ⟨A, n, cap, l, e, hr, ho.more hB⟩
end Go.Proofs.YtifabkbdiiolfaaDoor

namespace Go.Proofs.YtifabkbdiiolfaaDoor
open Go.RowKit Go.WideShapes Col
namespace Col
theorem grp_back (n : Nat) (hn : n < 18446744073709551616) (r : List Nat) : grp 0 (ub n ++ r) = some (n, r) := grp_ub r n 0 ⟨by omega, hn⟩ (.inr rfl)
theorem uP_back {most n : Nat} (hn : n ≤ most) (h : n < 18446744073709551616) (r : List Nat) : uP most (ub n ++ r) = some (n, r) := by
 unfold uP; rw [grp_back n h r]; simp [hn]
theorem zP_back {x : Int} (h : Wf64 x) (r : List Nat) : zP (ub (zz x) ++ r) = some (x, r) := by
 unfold zP; rw [grp_back _ (zz_lt h) r]; simp [uz_zz]
theorem pk_get (W : Nat) : ∀ (ds : List Nat) (i d : Nat), ds[i]? = some d → (∀ x ∈ ds, x < 2 ^ W) → bitsAt (pk W ds) (i * W) W = d
 | [], i, d, h, _ => by simp at h
 | e :: ds, 0, d, h, hd => by
  simp at h; subst h
  unfold bitsAt
  rw [pk, Nat.zero_mul, Nat.pow_zero, Nat.div_one, Nat.add_mul_mod_self_left, Nat.mod_eq_of_lt (hd _ (List.mem_cons_self ..))]
 | e :: ds, i + 1, d, h, hd => by
  have ih := pk_get W ds i d (by simpa using h) fun x hx => hd x (List.mem_cons_of_mem _ hx)
  unfold bitsAt at *
  rw [pk, Nat.add_mul, Nat.one_mul, Nat.add_comm (i * W), Nat.pow_add, ← Nat.div_div_eq_div_mul, Nat.add_mul_div_left _ _ (Nat.two_pow_pos _), Nat.div_eq_of_lt (hd e (List.mem_cons_self ..)), Nat.zero_add]
  exact ih
theorem pick_le (b p : List Nat) : (pickL b p).length ≤ b.length ∧ (pickL b p).length ≤ p.length := by unfold pickL; split <;> omega
theorem best_le (k : Nat) (l : List Int) : ∀ way, way ≤ k → (bestL k l).length ≤ (asL way l).length := by
 induction k with
 | zero => intro way h; rw [show way = 0 by omega]; exact Nat.le_refl _
 | succ k ih =>
  intro way h
  show (pickL (bestL k l) (asL (k + 1) l)).length ≤ _
  obtain ⟨h1, h2⟩ := pick_le (bestL k l) (asL (k + 1) l)
  by_cases e : way = k + 1
  ·rw [e]; exact h2
  ·exact Nat.le_trans h1 (ih way (by omega))
end Col
end Go.Proofs.YtifabkbdiiolfaaDoor

namespace Go.Proofs.YtifabkbdiiolfaaDoor
open Go.RowKit Go.WideShapes Col
theorem Puts.at {B : Nat} {w w' : World} {l : List Nat} {e : Ending} (h : Puts B w l e w') : ∃ A n cap, e = .returned (.slice A n cap) ∧ Hid (OwnS w' B A n cap l) ∧ Hid (Below B w w') ∧ n = l.length := by
 obtain ⟨A, n, cap, he, ho, hb, -⟩ := h
 exact ⟨A, n, cap, he, ho, hb, ho.len⟩
set_option maxHeartbeats 2000000 in
theorem refU_any (n : Nat) : n < 18446744073709551616 → ∀ w : World, Calls Tryd.prog 17 #[.int .u64 (n : Int)] w (Puts w.heap.size w (ub n)) := by
 induction n using Nat.strongRecOn with
 | ind n ih =>
  intro hn w
  by_cases h : n < 128
  ·have hw8 : IntKind.u8.wrap (n : Int) = (n : Int) := by rw [IntKind.wrap_u8]; omega
   have HO : Hid (OwnS (w.alloc (.cells #[.int .u8 (n : Int)] 5)) w.heap.size (some ⟨w.heap.size, 0, none⟩) 1 1 [n]) := Lib.hid (OwnS.of_row (cs := [.int .u8 (n : Int)]) (heap_alloc_new' w _) rfl (by decide) rfl rfl (Nat.le_refl _) (fun x hx => by simp at hx; omega))
   have HB : Hid (Below w.heap.size w (w.alloc (.cells #[.int .u8 (n : Int)] 5))) := Lib.hid ((Below.refl _ _).alloc (Nat.le_refl _) _)
   clear ih
   go_enter Tryd.func17, Tryd.ntmps17
   go_wp2
   go_ret
   exact ⟨_, 1, 1, rfl, by rw [ub_lt h]; exact HO.out, HB.out, HB.out.size⟩
  ·obtain ⟨m, hm⟩ : ∃ m, m = n % 128 := ⟨_, rfl⟩
   obtain ⟨q, hq⟩ : ∃ q, q = n / 128 := ⟨_, rfl⟩
   obtain ⟨c, hc⟩ : ∃ c, c = m + 128 := ⟨_, rfl⟩
   have hmi : (n : Int) % 128 = (m : Int) := by omega
   have hmi2 : (n : Int).tmod 128 = (m : Int) := by rw [Int.tmod_eq_emod_of_nonneg (by omega)]; exact hmi
   have hqi : (n : Int) / 128 = (q : Int) := by omega
   have hqi2 : (n : Int).tdiv 128 = (q : Int) := by rw [Int.tdiv_eq_ediv_of_nonneg (by omega)]; exact hqi
   have hci : (m : Int) + 128 = (c : Int) := by omega
   have hc256 : c < 256 := by omega
   have hw8 : IntKind.u8.wrap (c : Int) = (c : Int) := by rw [IntKind.wrap_u8]; omega
   have hm128 : m < 128 := by omega
   have HUB : Hid (ub n = [c] ++ ub q) := Lib.hid (by rw [ub_ge (by omega), ← hm, ← hc, ← hq]; rfl)
   have HQ10 := Lib.hid (ub10 (show q < 18446744073709551616 by omega))
   have HI := Lib.hid (ih q (by omega) (by omega))
   have HO : Hid (OwnS (w.alloc (.cells #[.int .u8 (c : Int)] 5)) w.heap.size (some ⟨w.heap.size, 0, none⟩) 1 1 [c]) := Lib.hid (OwnS.of_row (cs := [.int .u8 (c : Int)]) (heap_alloc_new' w _) rfl (by decide) rfl rfl (Nat.le_refl _) (fun x hx => by simp at hx; omega))
   have HB : Hid (Below w.heap.size w (w.alloc (.cells #[.int .u8 (c : Int)] 5))) := Lib.hid ((Below.refl _ _).alloc (Nat.le_refl _) _)
   clear ih hm hq hc
   go_enter Tryd.func17, Tryd.ntmps17
   go_wp2_with (first
    | (go_at_call 17; refine (HI.out _).mono ?_; rintro e w2 hp; obtain ⟨A2, n2, c2, rfl, HO2, HB2, hn2⟩ := hp.at; have HN2 := Lib.hid hn2; have hn10 : n2 ≤ 10 := (by have := HQ10.out; omega); have HO3 := Lib.hid (HO.out.keep HB2.out); have HB3 := Lib.hid (below_to HB.out HB2.out); clear hp hn2)
    | (refine wpList_append_by rfl (.tmp 14) (.tmp 17) rfl w.heap.size (some ⟨w.heap.size, 0, none⟩) 1 1 [c] rfl HO3.out A2 n2 c2 (ub q) rfl HN2.out HO2.out.byAt (by omega) HB3.out.size ?_; intro A4 c4 w4 ho4 hg4 hr4; have HO4 := Lib.hid ho4; have HB4 := Lib.hid (HB3.out.grown hg4 HB3.out.size HO3.out.base); clear ho4 hg4 hr4))
   go_ret
   exact ⟨A4, _, c4, rfl, by rw [HUB.out]; exact HO4.out, HB4.out, HB4.out.size⟩
set_option maxHeartbeats 2000000 in
theorem refI_any (x : Int) (hx : Hid (Wf64 x)) (w : World) : Calls Tryd.prog 18 #[.int .i64 x] w (Puts w.heap.size w (ub (zz x))) := by
 have hz := zz_lt hx.out
 obtain ⟨h1, h2⟩ := hx.out
 obtain ⟨z, hzz⟩ : ∃ z, z = zz x := ⟨_, rfl⟩
 rw [← hzz] at hz
 have HZ := Lib.hid hzz
 have HU := Lib.hid (refU_any z hz)
 by_cases h : x < 0
 ·have e : zz x = (-2 * x - 1).toNat := if_pos h
  obtain ⟨y, hy⟩ : ∃ y : Int, y = -(x + 1) := ⟨_, rfl⟩
  have hyi : -(x + 1) = y := hy.symm
  have hy1 : 0 ≤ y ∧ y ≤ 9223372036854775807 := by omega
  have hyw : IntKind.u64.wrap y = y := by rw [IntKind.wrap_u64]; omega
  have hzi : y * 2 + 1 = (z : Int) := by omega
  have hzi2 : 2 * y + 1 = (z : Int) := by omega
  clear hzz hy
  go_enter Tryd.func18, Tryd.ntmps18
  go_wp2_with (go_at_call 17; refine (HU.out _).mono ?_; rintro e w2 hp; obtain ⟨A2, n2, c2, rfl, HO2, HB2, hn2⟩ := hp.at; clear hp hn2)
  go_ret
  exact ⟨A2, n2, c2, rfl, by rw [← HZ.out]; exact HO2.out, HB2.out, HB2.out.size⟩
 ·have e : zz x = (2 * x).toNat := if_neg h
  have hxw : IntKind.u64.wrap x = x := by rw [IntKind.wrap_u64]; omega
  have hzi : x * 2 = (z : Int) := by omega
  have hzi2 : 2 * x = (z : Int) := by omega
  clear hzz
  go_enter Tryd.func18, Tryd.ntmps18
  go_wp2_with (go_at_call 17; refine (HU.out _).mono ?_; rintro e w2 hp; obtain ⟨A2, n2, c2, rfl, HO2, HB2, hn2⟩ := hp.at; clear hp hn2)
  go_ret
  exact ⟨A2, n2, c2, rfl, by rw [← HZ.out]; exact HO2.out, HB2.out, HB2.out.size⟩
theorem bitLen_two (n : Nat) (h : 0 < n) : bitLen n = bitLen (n / 2) + 1 := by
 by_cases h2 : n / 2 = 0
 ·have : n = 1 := by omega
  subst this; decide
 ·have := bitLen_shift n 1 (by simpa using h2)
  rw [this]; simp; omega
set_option maxHeartbeats 1000000 in
theorem width_any (n : Nat) (hn : n < 18446744073709551616) (w : World) : Calls Tryd.prog 75 #[.int .u64 (n : Int)] w fun e w' => e = .returned (.int .i64 (bitLen n : Nat)) ∧ w = w' := by
 have hb64 : bitLen n ≤ 64 := by
  have hs := (bitLen_spec n).2
  by_cases h0 : n = 0
  ·subst h0; decide
  ·have h5 : 2 ^ (bitLen n - 1) < 2 ^ 64 := by have := hs h0; omega
   have := (Nat.pow_lt_pow_iff_right (by decide)).1 h5
   omega
 go_enter Tryd.func75, Tryd.ntmps75
 go_wp2
 go_loopw [0, 3] (fun u v wr => ∃ (m k : Nat), u = .int .u64 (m : Int) ∧ v = .int .i64 (k : Int) ∧ m ≤ n ∧ k + bitLen m = bitLen n ∧ w = wr) (fun u _ _ => (intOf u).toNat)
 case atStart => exact ⟨n, 0, rfl, rfl, Nat.le_refl _, by omega, rfl⟩
 case round =>
  obtain ⟨m, k, rfl, rfl, hm, hk, rfl⟩ := hrel
  have HK := Lib.hid hk
  have hk64 : k ≤ 64 := by omega
  clear hk
  by_cases h0 : m = 0
  ·subst h0
   have HE : Hid (bitLen n = k) := Lib.hid (by have := HK.out; rw [show bitLen 0 = 0 by decide] at this; omega)
   go_wp2
   go_ret
   exact ⟨by rw [HE.out]; rfl, rfl⟩
  ·obtain ⟨q, hq⟩ : ∃ q, q = m / 2 := ⟨_, rfl⟩
   have hqi : (m : Int) / 2 = (q : Int) := by omega
   have hqi2 : (m : Int).tdiv 2 = (q : Int) := by rw [Int.tdiv_eq_ediv_of_nonneg (by omega)]; exact hqi
   have HE : Hid (k + 1 + bitLen q = bitLen n) := Lib.hid (by have := HK.out; rw [bitLen_two m (by omega), ← hq] at this; omega)
   have hqm : q < m := by omega
   have hm0 : (0 : Int) < (m : Int) := by omega
   clear hq
   go_wp2
   go_roundw
   case rel => exact ⟨q, k + 1, rfl, by go_num, by omega, HE.out, by trivial⟩
   case measure => simp [intOf]; omega
end Go.Proofs.YtifabkbdiiolfaaDoor
