/-
  Layer column: readReals and ReadReals, where all goes well.
-/
import Derived.Test.YtifabkbdiiolfaaGreatDoorCoK
import Derived.Test.YtifabkbdiiolfaaGreatDoorEeK
set_option linter.unusedSimpArgs false
set_option linter.unusedVariables false
set_option maxRecDepth 8000
namespace Go.Proofs.YtifabkbdiiolfaaGreatDoor
open Go.RowKit Go.WideShapes Col
theorem Puts.at {B : Nat} {w w' : World} {l : List Nat} {e : Ending} (h : Puts B w l e w') : ∃ A n cap, e = .returned (.slice A n cap) ∧ Hid (OwnS w' B A n cap l) ∧ Hid (Below B w w') ∧ n = l.length := by
 obtain ⟨A, n, cap, he, ho, hb, -⟩ := h
 exact ⟨A, n, cap, he, ho, hb, ho.len⟩
end Go.Proofs.YtifabkbdiiolfaaGreatDoor

set_option maxRecDepth 20000
namespace Go.Proofs.YtifabkbdiiolfaaGreatDoor
open Go.RowKit Go.WideShapes Col
theorem yb_bin {ops : Array Oper} {S : World → Prop} {op : Oper} {a : Act} (hw : Region.wanted op (yielded ops a.tmps) = true) (o : BinOp) (t t2 : TypeId) (x y : Operand) (ho : op.op = .binOp o t x y t2) (v1 v2 u : Value) (hx : a.eval x = v1) (hy : a.eval y = v2)
  (he : ∀ w, (eqGuard o t x y v1 v2).run Tryz.prog w = .ok () w) (h : ∀ w, (binOp o t v1 v2).run Tryz.prog w = .ok u w) : YieldsIf Tryz.prog ops S op u a :=
 .inl ⟨hw, fun w _ => by
  unfold execOp
  simp only [ho, hx, hy, Sem.run_bind, Sem.run_pure, he w, h w, Result.andThen_ok]⟩
theorem yb_pick {ops : Array Oper} {S : World → Prop} {op : Oper} {a : Act} (hw : Region.wanted op (yielded ops a.tmps) = true) (x y z : Operand) (ho : op.op = .pick x y z) (b : Bool) (v : Value) (hx : a.eval x = .bool b) (hv : (if b then a.eval y else a.eval z) = v) : YieldsIf Tryz.prog ops S op v a :=
 .inl ⟨hw, fun w _ => by
  unfold execOp
  subst hv
  cases b <;> simp only [ho, hx] <;> rfl⟩
end Go.Proofs.YtifabkbdiiolfaaGreatDoor

set_option maxRecDepth 8000
namespace Go.Proofs.YtifabkbdiiolfaaGreatDoor
open Go.RowKit Go.WideShapes Col
theorem b_subN (a b : Nat) (h : b ≤ a) (h2 : a ≤ 100000000) (w : World) : (binOp .sub 3 (.int .i64 (a : Int)) (.int .i64 (b : Int))).run Tryz.prog w = .ok (.int .i64 ((a - b : Nat) : Int)) w := by
 have e : IntKind.i64.wrap ((a : Int) - (b : Int)) = ((a - b : Nat) : Int) := by rw [IntKind.wrap_i64]; omega
 rw [← e]; rfl
theorem yb_cv {ops : Array Oper} {S : World → Prop} {op : Oper} {a : Act} (hw : Region.wanted op (yielded ops a.tmps) = true) (f t : TypeId) (x : Operand) (ho : op.op = .convert f t x) (v u : Value) (hx : a.eval x = v)
  (h : ∀ w, (convert f t v).run Tryz.prog w = .ok u w) : YieldsIf Tryz.prog ops S op u a :=
 .inl ⟨hw, fun w hw' => by
  unfold execOp
  simp only [ho, hx, Sem.run_bind, Sem.run_pure, h w, Result.andThen_ok]⟩
end Go.Proofs.YtifabkbdiiolfaaGreatDoor

namespace Go.Proofs.YtifabkbdiiolfaaGreatDoor
open Go.RowKit Go.WideShapes Col
namespace Col
theorem map_snoc (W V : Nat) (mn : Int) (i : Nat) : (List.range (i + 1)).map (pval W V mn) = (List.range i).map (pval W V mn) ++ [pval W V mn i] := by rw [List.range_succ, List.map_append]; rfl
end Col
end Go.Proofs.YtifabkbdiiolfaaGreatDoor

namespace Go.Proofs.YtifabkbdiiolfaaGreatDoor
open Go.RowKit Go.WideShapes Col
/-- A slice value that holds some words, in a world. -/
def FlAt (w : World) (a : Option Addr) (l : List Nat) : Prop := ∀ (k x : Nat), l[k]? = some x → x < 18446744073709551616 ∧ ∃ g off, a = some ⟨g, off, none⟩ ∧ g < w.heap.size ∧ w.cell? ⟨g, off + k, none⟩ = some (.float .f64 x)
theorem FlAt.keep {w w' : World} {a : Option Addr} {l : List Nat} (h : FlAt w a l) (hb : Below w.heap.size w w') : FlAt w' a l := fun k x hx => by
 obtain ⟨h1, g, off, h2, h3, h4⟩ := h k x hx
 exact ⟨h1, g, off, h2, Nat.lt_of_lt_of_le h3 hb.size, (hb.cell (p := ⟨g, off + k, none⟩) h3).trans h4⟩
def fvs (l : List Nat) : List Value := l.map fun x => .float .f64 x
/-- A row of numbers with a point that is all of a slice. -/
def RowF (w : World) (g : Nat) (l : List Nat) : Prop := w.heap[g]? = some (.cells (fvs l).toArray 43 (0, 0))
section
variable {w : World} {g : Nat} {l : List Nat}
theorem RowF.fr (h : RowF w g l) (i : Nat) : w.frozen? ⟨g, i, none⟩ = false := row_frozen h i
theorem RowF.cell (h : RowF w g l) (i x : Nat) (hx : l[i]? = some x) : w.cell? ⟨g, i, none⟩ = some (.float .f64 x) := by
 rw [cell_of_row _ _ _ _ _ _ h, List.getElem?_toArray]; unfold fvs; rw [List.getElem?_map, hx]; rfl
theorem RowF.at (h : RowF w g l) (i : Nat) (hi : i < l.length) : ∃ u, w.cell? ⟨g, i, none⟩ = some u := ⟨_, h.cell i _ (List.getElem?_eq_getElem hi)⟩
theorem RowF.set (h : RowF w g l) (i x : Nat) : RowF (w.setCell ⟨g, i, none⟩ (.float .f64 x)) g (l.set i x) := by
 unfold RowF at *
 rw [World.setCell]
 simp only [Array.getElem?_modify, if_pos, h, Option.map_some]
 have e : (fvs l).toArray.setIfInBounds i (.float .f64 x) = (fvs (l.set i x)).toArray := by
  unfold fvs; rw [List.map_set]; simp
 simp [e]
theorem RowF.keep {S : Nat → Prop} {w' : World} (h : RowF w g l) (hk : Kept S w w') (hg : ¬ S g) : RowF w' g l := hk.heap h hg
theorem RowF.isAt (h : RowF w g l) (hl : ∀ x ∈ l, x < 18446744073709551616) : FlAt w (some ⟨g, 0, none⟩) l := fun k x hx => ⟨hl x (List.mem_of_getElem? hx), g, 0, rfl, (Array.getElem?_eq_some_iff.1 h).1, by rw [Nat.zero_add]; exact h.cell k x hx⟩
end
theorem infoF64 : (Tryz.prog.info? 43).map (fun i => (i.zero, i.size, i.bytes)) = some (some (.float .f64 0), 1, 8) := by kernel_rfl
theorem rowF_zeros {w : World} {B g q : Nat} (h : w.ownsRow B 43 1 (.slice (some ⟨g, 0, none⟩) q q) q (madeCells (Value.float .f64 0).cells (q * 1)).toList) : RowF w g (List.replicate q 0) := by
 have e : fvs (List.replicate q 0) = List.replicate q (.float .f64 0) := by unfold fvs; rw [List.map_replicate]
 rw [Nat.mul_one, show (Value.float .f64 0).cells = #[.float .f64 0] from rfl, toList_madeCells_one, ← e] at h
 rcases h.2 with ⟨h1, h2⟩ | ⟨g', cap', cur, h1, hb, hrow, -, -, hs, ht⟩
 ·cases h1
 ·cases h1
  unfold RowF
  rw [hrow]
  have hc : cur = (fvs (List.replicate q 0)).toArray := by
   apply Array.ext'
   rw [← ht, Nat.mul_one, List.take_of_length_le (by rw [Array.length_toList, hs]; omega)]
  rw [hc]
theorem run_store_flC (w : World) (a : Addr) (y : Nat) (u : Value) (hc : w.cell? a = some u) (hf : w.frozen? a = false) : (store a (.float .f64 y)).run Tryz.prog w = .ok () (w.setCell a (.float .f64 y)) := by
 rw [run_store Tryz.prog w a _ _ rfl]
 simp [stored, hc, hf]
/-- A number's bits as a number with a sign. -/
def rwI (b : Nat) : Int := IntKind.i64.wrap ((Fl.canon b : Nat) : Int)
theorem rwI_wf (b : Nat) : Wf64 (rwI b) := by unfold rwI Wf64; rw [IntKind.wrap_i64]; omega
def u64N (x : Int) : Nat := (IntKind.u64.wrap x).toNat
theorem u64N_eq (x : Int) : IntKind.u64.wrap x = ((u64N x : Nat) : Int) ∧ u64N x < 18446744073709551616 := by
 unfold u64N; rw [IntKind.wrap_u64]; omega
theorem u64N_rw (b : Nat) (hb : b < 18446744073709551616) : u64N (rwI b) = Fl.canon b := by
 have := Fl.canon_lt b hb
 unfold u64N rwI; rw [IntKind.wrap_u64, IntKind.wrap_i64]; omega
theorem rw_snoc (l : List Nat) (k b : Nat) (h : l[k]? = some b) : (l.map rwI).take (k + 1) = (l.map rwI).take k ++ [rwI b] := by
 rw [List.take_add_one, List.getElem?_map, h]; rfl
set_option maxHeartbeats 2000000 in
theorem reals_any (b : Option Addr) (n c : Nat) (l : List Nat) (hn : Hid (n = l.length)) (hn1 : n ≤ 4096) (W : World) (HL : Hid (FlAt W b l)) :
  Calls Tryz.prog 70 #[.slice b n c] W (Puts W.heap.size W (intsL (l.map rwI))) := by
 obtain ⟨iu, hiu, hz0, hz1, hz2⟩ := info_parts infoI64'
 have hzb : iu.bytes * n ≤ 281474976710656 := by rw [hz2]; omega
 have hnm : n ≤ maxLen := by unfold maxLen; omega
 have HLEN : Hid ((l.map rwI).length = n) := Lib.hid (by rw [List.length_map]; exact hn.out.symm)
 go_enter Tryz.func70, Tryz.ntmps70
 go_wp2_with (refine wpList_make_full _ rfl (.tmp 7) (.tmp 7) 122 rfl W.heap.size 2 iu (.int .i64 0) 1 Tryz.underlying122 hiu hz0 hz1 .i64 .i64 _ _ n rfl rfl rfl rfl hzb hnm (Nat.le_refl _) ?_; intro w1 own hgr; have HRI := Lib.hid (rowI_zeros own); have HB1 : Hid (Below W.heap.size W w1) := Lib.hid ((Below.refl _ W).grown hgr (Nat.le_refl _) (by intro k hk; cases hk)); clear own hgr)
 obtain ⟨L, hL⟩ : ∃ L, L = W.heap.size := ⟨_, rfl⟩
 rw [← hL] at HRI ⊢
 have HLE := Lib.hid hL
 clear hL
 go_loopw [11] (fun v wr => ∃ k : Nat, k ≤ n ∧ v = .int .i64 (k : Int) ∧ RowI wr L ((l.map rwI).take k ++ List.replicate (n - k) 0) ∧ Below L W wr) (fun v _ => n - (intOf v).toNat)
 case atStart => exact ⟨0, Nat.zero_le _, rfl, by simpa using HRI.out, by rw [HLE.out]; exact HB1.out⟩
 case round =>
  obtain ⟨k, hk, rfl, hrow, hb⟩ := hrel
  have HROW := Lib.hid hrow; have HB : Hid (Below W.heap.size W wr) := Lib.hid (HLE.out ▸ hb)
  clear hrow hb HRI HB1
  by_cases hlt : k < n
  ·obtain ⟨x, hx⟩ : ∃ x, l[k]? = some x := ⟨l[k]'(by have := hn.out; omega), List.getElem?_eq_getElem _⟩
   obtain ⟨hx64, g, off, rfl, -, hcx⟩ := (HL.out.keep HB.out) k x hx
   have HSN := Lib.hid (rw_snoc l k x hx)
   have HBI := Lib.hid (bits_any x hx64)
   have f2 := HROW.out.fr k
   obtain ⟨u2, c2⟩ := HROW.out.at k (by rw [List.length_append, List.length_replicate, List.length_take]; have := HLEN.out; omega)
   have HSET := Lib.hid (fill_set ((l.map rwI).take k) n k (by rw [List.length_take]; have := HLEN.out; omega) hlt (rwI x))
   obtain ⟨y, hy⟩ : ∃ y, y = Fl.canon x := ⟨_, rfl⟩
   rw [← hy] at HBI
   have hyw : IntKind.i64.wrap (y : Int) = rwI x := by rw [hy]; rfl
   clear hx hy
   go_wp2_with (go_at_call 105; refine (HBI.out _).mono ?_; rintro e w2 ⟨rfl, rfl⟩)
   go_roundw
   case rel => exact ⟨k + 1, by omega, by go_num, by rw [HSN.out, ← HSET.out]; exact HROW.out.set k (rwI x), by rw [HLE.out]; exact HB.out.setCell (Nat.le_refl _) _⟩
   case measure => simp [intOf]; omega
  ·obtain rfl : k = n := by omega
   have hr := HROW.out
   rw [Nat.sub_self, List.replicate_zero, List.append_nil, List.take_of_length_le (by have := HLEN.out; omega)] at hr
   have HO := Lib.hid (hr.own (B := L) (Nat.le_refl _) (fun x hx => by obtain ⟨y, -, rfl⟩ := List.mem_map.1 hx; exact rwI_wf y) (by rw [HLEN.out]; exact hnm))
   rw [HLEN.out] at HO
   have HI := Lib.hid (ints_any (some ⟨L, 0, none⟩) k k (l.map rwI) (Lib.hid HLEN.out.symm) (Nat.le_refl _) (by omega) (by omega) wr (Lib.hid HO.out.isAt))
   clear hr
   go_wp2_with (go_at_call 68; (with_reducible refine (HI.out).mono ?_); rintro e w2 ⟨A2, n2, c2, rfl, h1, h2, h3⟩; have HO2 := Lib.hid (h1.more HB.out.size); have HB2 := Lib.hid (below_to HB.out h2); clear h1 h2 h3)
   go_ret
   exact ⟨A2, n2, c2, rfl, HO2.out, HB2.out, HB2.out.size⟩
end Go.Proofs.YtifabkbdiiolfaaGreatDoor

namespace Go.Proofs.YtifabkbdiiolfaaGreatDoor
open Go.RowKit Go.WideShapes Col
theorem IsAt.kept {S : Nat → Prop} {w w' : World} {a : Option Addr} {l : List Int} (h : IsAt w a l) (hk : Kept S w w') (ho : ∀ b, a = some b → ¬ S b.block) : IsAt w' a l := fun k x hx => by
 obtain ⟨h1, g, off, h2, h3, h4⟩ := h k x hx
 have e := ho _ h2
 exact ⟨h1, g, off, h2, Nat.lt_of_lt_of_le h3 hk.size, (hk.cell (p := ⟨g, off + k, none⟩) h3 e).trans h4⟩
theorem OwnI.ltI {w : World} {B n cap : Nat} {A : Option Addr} {l : List Int} (h : OwnI w B A n cap l) (k : Nat) (hk : A.map (·.block) = some k) : k < w.heap.size := by
 rcases h.1.2 with ⟨h1, _⟩ | ⟨a, cap', cur, h1, hb, hrow, -⟩
 ·injection h1 with e1 e2 e3; rw [e1] at hk; cases hk
 ·injection h1 with e1 e2 e3; rw [e1] at hk; simp at hk; subst hk; exact (Array.getElem?_eq_some_iff.1 hrow).1
theorem un_snoc (xs : List Int) (k : Nat) (x : Int) (h : xs[k]? = some x) : (xs.map u64N).take (k + 1) = (xs.map u64N).take k ++ [u64N x] := by
 rw [List.take_add_one, List.getElem?_map, h]; rfl
theorem fill_setN (xs : List Nat) (n k : Nat) (hx : xs.length = k) (hk : k < n) (x : Nat) : (xs ++ List.replicate (n - k) 0).set k x = (xs ++ [x]) ++ List.replicate (n - (k + 1)) 0 := by
 obtain ⟨m, rfl⟩ : ∃ m, n = k + 1 + m := ⟨n - k - 1, by omega⟩
 rw [show k + 1 + m - k = m + 1 by omega, show k + 1 + m - (k + 1) = m by omega, List.replicate_succ, List.set_append_right _ _ (by omega), hx, Nat.sub_self, List.set_cons_zero, List.append_assoc]; rfl
theorem fillN_at (xs : List Nat) (n k : Nat) (hx : xs.length = k) (x : Nat) : ((xs ++ [x]) ++ List.replicate (n - (k + 1)) 0)[k]? = some x := by
 rw [List.append_assoc, List.getElem?_append_right (by omega), hx, Nat.sub_self]; rfl
set_option maxHeartbeats 4000000 in
theorem readReals_yes (g : Nat) (q : List Nat) (w : World) (H : Hid (RdM g q w)) (xs : List Int) (r : List Nat) (ho : Hid (rI q = some (xs, r))) (hok : Hid (∀ x ∈ xs, Fl.canon (u64N x) = u64N x)) (n : Nat) (hn : Hid (n = xs.length)) (hn1 : n ≤ 4096) :
  Calls Tryz.prog 171 #[.pointer (some ⟨g, 0, none⟩)] w fun e w' => ∃ L, e = .returned (.slice (some ⟨L, 0, none⟩) n n) ∧ w.heap.size ≤ L ∧ RowF w' L (xs.map u64N) ∧ RdM g r w' ∧ Kept (Only g) w w' := by
 obtain ⟨iu, hiu, hz0, hz1, hz2⟩ := info_parts infoF64
 have hzb : iu.bytes * n ≤ 281474976710656 := by rw [hz2]; omega
 have hnm : n ≤ maxLen := by unfold maxLen; omega
 have HI := Lib.hid (readInts_any g q w H)
 have hgl := H.out.1.glt
 have HLEN : Hid ((xs.map u64N).length = n) := Lib.hid (by rw [List.length_map]; exact hn.out.symm)
 go_enter Tryz.func171, Tryz.ntmps171
 go_wp2_with (first
  | (go_at_call 167; go_loud (refine (HI.out).mono ?_; intro e w2 h8; rw [ho.out] at h8; have h8 : (∃ A n' cap, e = .returned (.slice A n' cap) ∧ OwnI w2 w.heap.size A n' cap xs) ∧ RdM g r w2 ∧ Kept (Only g) w w2 := h8; obtain ⟨⟨A, n', cap, rfl, h3⟩, h4, h5⟩ := h8; obtain rfl : n' = n := (by have e1 := h3.len; have e2 := hn.out; omega); have HOW := Lib.hid h3; have HRD := Lib.hid h4; have HK := Lib.hid h5; clear h3 h4 h5))
  | (refine wpList_make_full _ rfl (.tmp 10) (.tmp 10) 123 rfl w2.heap.size 43 iu (.float .f64 0) 1 Tryz.underlying123 hiu hz0 hz1 .i64 .i64 _ _ n' rfl rfl rfl rfl hzb hnm (Nat.le_refl _) ?_; intro w3 own hgr; have HRF := Lib.hid (rowF_zeros own); have HB3 : Hid (Below w2.heap.size w2 w3) := Lib.hid ((Below.refl _ w2).grown hgr (Nat.le_refl _) (by intro k hk; cases hk)); clear own hgr))
 obtain ⟨L, hL⟩ : ∃ L, L = w2.heap.size := ⟨_, rfl⟩
 rw [← hL] at HRF ⊢
 have hwL : w.heap.size ≤ L := by rw [hL]; exact HK.out.size
 have HRD3 : Hid (RdM g r w3) := Lib.hid (HRD.out.high (S := fun _ => False) (Kept.of_below HB3.out) fun k e => e.elim)
 have HIS3 : Hid (IsAt w3 A xs) := Lib.hid (HOW.out.isAt.keep HB3.out)
 have HAL : Hid (∀ b, A = some b → b.block ≠ L) := Lib.hid fun b e => by have := HOW.out.ltI b.block (by rw [e]; rfl); omega
 have HK3 : Hid (Kept (Only g) w w3) := Lib.hid (HK.out.trans (Kept.of_below HB3.out))
 clear hL HOW HRD HK HB3 HI
 go_loopw [14] (fun v wr => ∃ k : Nat, k ≤ n' ∧ v = .int .i64 (k : Int) ∧ RowF wr L ((xs.map u64N).take k ++ List.replicate (n' - k) 0) ∧ RdM g r wr ∧ Kept (fun j => j = L) w3 wr) (fun v _ => n' - (intOf v).toNat)
 case atStart => exact ⟨0, Nat.zero_le _, rfl, by simpa using HRF.out, HRD3.out, Kept.refl _ _⟩
 case round =>
  obtain ⟨k, hk, rfl, hrow, hrd, hkp⟩ := hrel
  have HROW := Lib.hid hrow; have HRD := Lib.hid hrd; have HKL := Lib.hid hkp
  clear hrow hrd hkp HRF
  by_cases hlt : k < n'
  ·obtain ⟨x, hx⟩ : ∃ x, xs[k]? = some x := ⟨xs[k]'(by have := hn.out; omega), List.getElem?_eq_getElem _⟩
   obtain ⟨-, ga, oa, rfl, hga, hca⟩ := (HIS3.out.kept HKL.out (fun b e h => HAL.out b e h)) k x hx
   have HGA := Lib.hid hga; have HCA := Lib.hid hca
   have HNE : Hid (ga ≠ L) := Lib.hid (HAL.out _ rfl)
   obtain ⟨hu1, hu2⟩ := u64N_eq x
   have HSN := Lib.hid (un_snoc xs k x hx)
   have hcan := hok.out x (List.mem_of_getElem? hx)
   obtain ⟨u, hu⟩ : ∃ u, u = u64N x := ⟨_, rfl⟩
   rw [← hu] at hu1 hu2 hcan HSN
   have hOF := of_any u hu2
   rw [hcan] at hOF
   have HOF := Lib.hid hOF
   have hBI := bits_any u hu2
   rw [hcan] at hBI
   have HBI := Lib.hid hBI
   have f2 := HROW.out.fr k
   obtain ⟨u2, c2⟩ := HROW.out.at k (by rw [List.length_append, List.length_replicate, List.length_take]; have := HLEN.out; omega)
   have HSET := Lib.hid (fill_setN ((xs.map u64N).take k) n' k (by rw [List.length_take]; have := HLEN.out; omega) hlt u)
   have HAT := Lib.hid (fillN_at ((xs.map u64N).take k) n' k (by rw [List.length_take]; have := HLEN.out; omega) u)
   have s1 := run_store_flC wr ⟨L, k, none⟩ u u2 c2 f2
   have HR2 : Hid (RowF (wr.setCell ⟨L, k, none⟩ (.float .f64 u)) L ((xs.map u64N).take (k + 1) ++ List.replicate (n' - (k + 1)) 0)) := Lib.hid (by rw [HSN.out, ← HSET.out]; exact HROW.out.set k u)
   have HK2 : Hid (Kept (fun j => j = L) wr (wr.setCell ⟨L, k, none⟩ (.float .f64 u))) := Lib.hid ((Kept.refl _ _).setCell _ _ (.inl rfl))
   have HRD2 : Hid (RdM g r (wr.setCell ⟨L, k, none⟩ (.float .f64 u))) := Lib.hid (HRD.out.high HK2.out fun j hj => by have hj : j = L := hj; omega)
   clear hx hu hcan hOF hBI hga
   go_upto_region 7 with (go_at_call 193; refine (HOF.out _).mono ?_; rintro e w9 ⟨rfl, rfl⟩)
   clear s1 c2 f2 hca
   generalize wr.setCell ⟨L, k, none⟩ (.float .f64 u) = w4 at *
   have c4 : w4.cell? ⟨L, k, none⟩ = some (.float .f64 u) := HR2.out.cell k u (by rw [HSN.out]; exact HAT.out)
   have huu : ((u : Int) == (u : Int)) = true := by simp
   go_wp2_with (first
    | (go_at_call 105; refine (HBI.out _).mono ?_; rintro e w9 ⟨rfl, rfl⟩)
    | (go_at_call 80; (with_reducible refine (check_true _ _).mono ?_); rintro e w9 ⟨rfl, rfl⟩))
   go_roundw
   case rel => exact ⟨k + 1, by omega, by go_num, HR2.out, HRD2.out, HKL.out.trans HK2.out⟩
   case measure => simp [intOf]; omega
  ·obtain rfl : k = n' := by omega
   go_wp2
   go_ret
   have hr := HROW.out
   rw [Nat.sub_self, List.replicate_zero, List.append_nil, List.take_of_length_le (by have := HLEN.out; omega)] at hr
   exact ⟨L, rfl, hwL, hr, HRD.out, HK3.out.trans' HKL.out fun j hj => .inr (by have hj : j = L := hj; omega)⟩
/-- What the list's cell holds behind the reading. -/
def RdLF (us : List Nat) (n cl B : Nat) (b : Bool) (w : World) : Prop := b = true ∧ ∃ L, w.heap[cl]? = some (.cells #[.slice (some ⟨L, 0, none⟩) n n] 123 (0, 0)) ∧ RowF w L us ∧ B ≤ L
set_option maxHeartbeats 2000000 in
theorem listFnF_yes (g bf cl : Nat) (q : List Nat) (hql : q.length ≤ 1099511627776) (xs : List Int) (ho : Hid (rI q = some (xs, []))) (hok : Hid (∀ x ∈ xs, Fl.canon (u64N x) = u64N x)) (n : Nat) (hn : Hid (n = xs.length)) (hn1 : n ≤ 4096) (w : World) (HR : Hid (Rd w g q)) (Hf : Hid (w.heap[bf]? = some (.cells #[.func (.func 171) #[] #[]] 219 (0, 0)))) (Hc : Hid (w.heap[cl]? = some (.cells #[.slice none 0 0] 123 (0, 0)))) (h1 : cl < g) (h2 : bf < g) :
  Calls Tryz.prog 192 #[.pointer (some ⟨g, 0, none⟩), .pointer (some ⟨bf, 0, none⟩), .pointer (some ⟨cl, 0, none⟩)] w (Tried g (fun k => k = cl) (RdLF (xs.map u64N) n cl (g + 1)) w) := by
 have hc : w.cell? ⟨bf, 0, none⟩ = some (.func (.func 171) #[] #[]) := by rw [cell_of_row _ _ _ _ _ _ Hf.out]; rfl
 have HI := Lib.hid (readReals_yes g q w (Lib.hid ⟨HR.out, hql⟩) xs [] ho hok n hn hn1)
 have hgl := HR.out.glt
 go_enter Tryz.func192, Tryz.ntmps192
 go_wp2_with (go_at_call 171; refine (HI.out).mono ?_; rintro e w3 ⟨L, rfl, hL, hrf, hrd, hk⟩; have HRF := Lib.hid hrf; have HRD := Lib.hid hrd; have HK := Lib.hid hk; have hrow := hk.heap Hc.out (fun e => by have e : cl = g := e; omega); have c3 : w3.cell? ⟨cl, 0, none⟩ = some (.slice none 0 0) := (by rw [cell_of_row _ _ _ _ _ _ hrow]; rfl); have f3 : w3.frozen? ⟨cl, 0, none⟩ = false := row_frozen hrow 0; have HROW := Lib.hid hrow; clear hrf hrd hk hrow)
 have hk : Kept (fun k => k = cl) w3 (w3.setCell ⟨cl, 0, none⟩ (.slice (some ⟨L, 0, none⟩) n n)) := (Kept.refl _ _).setCell _ _ (.inl rfl)
 have hrow2 : (w3.setCell ⟨cl, 0, none⟩ (.slice (some ⟨L, 0, none⟩) n n)).heap[cl]? = some (.cells #[.slice (some ⟨L, 0, none⟩) n n] 123 (0, 0)) := by
  have := HROW.out; rw [World.setCell]; simp [Array.getElem?_modify, this]
 have hkk : Kept (fun k => k = cl ∨ k = g) w (w3.setCell ⟨cl, 0, none⟩ (.slice (some ⟨L, 0, none⟩) n n)) := (HK.out.mono fun k hk => .inl (.inr hk)).setCell _ _ (.inl (.inl rfl))
 refine bodyPost_end (results_none rfl _ _ _) rfl ⟨hkk, .inl ⟨[], rfl, HRD.out.1.high' hk (fun k hk => by have hk : k = cl := hk; omega) (fun A C h => off_slice h.bytes HROW.out), rfl, L, hrow2, HRF.out.keep hk (fun e => by have e : L = cl := e; omega), by omega⟩⟩
set_option maxHeartbeats 2000000 in
theorem readRealsC_yes (A : Option Addr) (C : Nat) (q : List Nat) (m : Nat) (hm : Hid (m = q.length)) (hm4 : m ≤ 1099511627776) (hC : m ≤ C) (hC' : C ≤ maxLen) (xs : List Int) (ho : Hid (rI q = some (xs, []))) (hok : Hid (∀ x ∈ xs, Fl.canon (u64N x) = u64N x)) (n : Nat) (hn : Hid (n = xs.length)) (hn1 : n ≤ 4096) (w : World) (HA : Hid (ByAt w A q)) :
  Calls Tryz.prog 140 #[.slice A m C] w fun e w' => ∃ L, e = .returned (.tuple #[.slice (some ⟨L, 0, none⟩) n n, .int .i64 0]) ∧ RowF w' L (xs.map u64N) ∧ Below w.heap.size w w' := by
 have hin : Calls Tryz.prog 170 #[.slice A m C, .func (.func 171) #[] #[]] w fun e w' => ∃ L, e = .returned (.tuple #[.slice (some ⟨L, 0, none⟩) n n, .int .i64 0]) ∧ RowF w' L (xs.map u64N) ∧ Below w.heap.size w w' := by
  obtain ⟨bf, w1, hbf, hw1, hrow1, hb1, hbf1⟩ := alloc_pt w (.func (.func 171) #[] #[]) 219
  obtain ⟨cl, w2, hcl, hw2, hrow2, hb2, hcl2⟩ := alloc_pt w1 (.slice none 0 0) 123
  have HW : Hid ((w.alloc (.cells #[.func (.func 171) #[] #[]] 219)).alloc (.cells #[.slice none 0 0] 123) = w2) := Lib.hid (by rw [hw2, hw1])
  have hsz : w1.heap.size = w.heap.size + 1 := by rw [hw1]; simp
  have HBF := Lib.hid hbf; have HCL : Hid (cl = w.heap.size + 1) := Lib.hid (by rw [hcl, hsz])
  have HB2 : Hid (Below w.heap.size w w2) := Lib.hid (below_to hb1 hb2)
  have hrf2 := (Kept.of_below (S := fun _ => False) hb2).heap hrow1 fun e => e
  have ht := try_any 192 #[] #[.pointer (some ⟨bf, 0, none⟩), .pointer (some ⟨cl, 0, none⟩)] A C q m hm hC hC' w2 (Lib.hid (HA.out.keep HB2.out)) (fun k => k = cl) (fun k hk => by have hk : k = cl := hk; omega)
   (fun g => RdLF (xs.map u64N) n cl (g + 1)) (RdLF (xs.map u64N) n cl w2.heap.size) (fun g b v2 v3 hg h hk => by
    obtain ⟨hb, L, hrow, hrf, hl⟩ := h
    exact ⟨hb, L, hk.heap hrow fun e => by have e : cl = g := e; omega, hrf.keep hk (fun e => by have e : L = g := e; omega), by omega⟩)
   (fun g v1 hg hr hb => listFnF_yes g bf cl q (by rw [← hm.out]; exact hm4) xs ho hok n hn hn1 v1 (Lib.hid hr) (Lib.hid ((Kept.of_below (S := fun _ => False) hb).heap hrf2 fun e => e)) (Lib.hid ((Kept.of_below (S := fun _ => False) hb).heap hrow2 fun e => e)) (by omega) (by omega))
   (fun _ _ => by first | rfl | kernel_rfl)
  have HT := Lib.hid ht
  clear ht hbf hw1 hrow1 hb1 hcl hw2 hrow2 hb2 hrf2 hbf1
  go_enter Tryz.func170, Tryz.ntmps170
  go_upto_region 2 with fail
  have e1 : w.heap.size = bf := HBF.out.symm
  have e2 : w.heap.size + 1 = cl := HCL.out.symm
  have hx : ∀ w3 : World, Kept (fun k => k = cl) w2 w3 → Below w.heap.size w w3 := fun w3 hk => HB2.out.trans (hk.below (B := w.heap.size) (by omega) fun k hk => by have hk : k = cl := hk; omega)
  have HX := Lib.hid hx
  clear hx
  rw [HW.out, e2, e1]
  clear e1 e2
  go_wp2_with (go_at_call 46; (with_reducible refine (HT.out).mono ?_); rintro e w3 ⟨b, rfl, ⟨rfl, L, hrow9, hrf9, hl9⟩, hk⟩; have HB3 := Lib.hid (HX.out w3 hk); have HRF := Lib.hid hrf9; have c9c : w3.cell? ⟨cl, 0, none⟩ = some (.slice (some ⟨L, 0, none⟩) n n) := (by rw [cell_of_row _ _ _ _ _ _ hrow9]; rfl); clear hk hrow9 hrf9)
  go_ret2
  exact ⟨L, rfl, HRF.out, HB3.out⟩
 have HT := Lib.hid hin
 clear hin
 go_enter Tryz.func140, Tryz.ntmps140
 go_wp2_with (go_at_call 170; (with_reducible refine (HT.out).mono ?_); rintro e w3 ⟨L, rfl, hrf, hb⟩; have HB := Lib.hid hb; have HRF := Lib.hid hrf; clear hb hrf)
 go_ret2
 exact ⟨L, rfl, HRF.out, HB.out⟩
end Go.Proofs.YtifabkbdiiolfaaGreatDoor
