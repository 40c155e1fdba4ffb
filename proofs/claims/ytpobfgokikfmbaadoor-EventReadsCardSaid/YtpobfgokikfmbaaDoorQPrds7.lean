/-
  Layer column: lists of numbers with a point: Reals, the document's own, readReals where all goes well.
-/
import Derived.Test.YtpobfgokikfmbaaDoorQPrds3
import Derived.Test.YtpobfgokikfmbaaDoorQPrds0
import Derived.Test.YtpobfgokikfmbaaDoorQPrds6
import Derived.Test.YtpobfgokikfmbaaDoorQPrds2
set_option linter.unusedSimpArgs false
set_option linter.unusedVariables false
set_option maxRecDepth 8000
namespace Go.Proofs.YtpobfgokikfmbaaDoor
open Go.RowKit Go.WideShapes Col
/-- A slice value that holds some words, in a world. -/
def FlAt (w : World) (a : Option Addr) (l : List Nat) : Prop := ∀ (k x : Nat), l[k]? = some x → x < 18446744073709551616 ∧ ∃ g off, a = some ⟨g, off, none⟩ ∧ g < w.heap.size ∧ w.cell? ⟨g, off + k, none⟩ = some (.float .f64 x)
theorem FlAt.keep {w w' : World} {a : Option Addr} {l : List Nat} (h : FlAt w a l) (hb : Below w.heap.size w w') : FlAt w' a l := fun k x hx => by
  obtain ⟨h1, g, off, h2, h3, h4⟩ := h k x hx
  exact ⟨h1, g, off, h2, Nat.lt_of_lt_of_le h3 hb.size, (hb.cell (p := ⟨g, off + k, none⟩) h3).trans h4⟩
def fvs (l : List Nat) : List Value := l.map fun x => .float .f64 x
/-- A row of numbers with a point that is all of a slice. -/
def RowF (w : World) (g : Nat) (l : List Nat) : Prop := w.heap[g]? = some (.cells (fvs l).toArray 34 (0, 0))
section
variable {w : World} {g : Nat} {l : List Nat}
theorem RowF.fr (h : RowF w g l) (i : Nat) : w.frozen? ⟨g, i, none⟩ = false := row_frozen h i
theorem RowF.cell (h : RowF w g l) (i x : Nat) (hx : l[i]? = some x) : w.cell? ⟨g, i, none⟩ = some (.float .f64 x) := by
  rw [cell_of_row _ _ _ _ _ _ h, List.getElem?_toArray]; unfold fvs; rw [List.getElem?_map, hx]; rfl
theorem RowF.at (h : RowF w g l) (i : Nat) (hi : i < l.length) : ∃ u, w.cell? ⟨g, i, none⟩ = some u := ⟨_, h.cell i _ (List.getElem?_eq_getElem hi)⟩
theorem RowF.set (h : RowF w g l) (i x : Nat) : RowF (w.setCell ⟨g, i, none⟩ (.float .f64 x)) g (l.set i x) := by
  unfold RowF at *
  rw [World.setCell]
  simp only [Array.getElem?_modify, if_pos, h, Option.map_some]
  have e : (fvs l).toArray.setIfInBounds i (.float .f64 x) = (fvs (l.set i x)).toArray := by
    unfold fvs; rw [List.map_set]; simp
  simp [e]
theorem RowF.keep {S : Nat → Prop} {w' : World} (h : RowF w g l) (hk : Kept S w w') (hg : ¬ S g) : RowF w' g l := hk.heap h hg
theorem RowF.isAt (h : RowF w g l) (hl : ∀ x ∈ l, x < 18446744073709551616) : FlAt w (some ⟨g, 0, none⟩) l := fun k x hx => ⟨hl x (List.mem_of_getElem? hx), g, 0, rfl, (Array.getElem?_eq_some_iff.1 h).1, by rw [Nat.zero_add]; exact h.cell k x hx⟩
end
theorem infoF64 : (Tryd.prog.info? 34).map (fun i => (i.zero, i.size, i.bytes)) = some (some (.float .f64 0), 1, 8) := by kernel_rfl
theorem rowF_zeros {w : World} {B g q : Nat} (h : w.ownsRow B 34 1 (.slice (some ⟨g, 0, none⟩) q q) q (madeCells (Value.float .f64 0).cells (q * 1)).toList) : RowF w g (List.replicate q 0) := by
  have e : fvs (List.replicate q 0) = List.replicate q (.float .f64 0) := by unfold fvs; rw [List.map_replicate]
  rw [Nat.mul_one, show (Value.float .f64 0).cells = #[.float .f64 0] from rfl, toList_madeCells_one, ← e] at h
  rcases h.2 with ⟨h1, h2⟩ | ⟨g', cap', cur, h1, hb, hrow, -, -, hs, ht⟩
  · cases h1
  · cases h1
    unfold RowF
    rw [hrow]
    have hc : cur = (fvs (List.replicate q 0)).toArray := by
      apply Array.ext'
      rw [← ht, Nat.mul_one, List.take_of_length_le (by rw [Array.length_toList, hs]; omega)]
    rw [hc]
theorem run_store_flC (w : World) (a : Addr) (y : Nat) (u : Value) (hc : w.cell? a = some u) (hf : w.frozen? a = false) : (store a (.float .f64 y)).run Tryd.prog w = .ok () (w.setCell a (.float .f64 y)) := by
  rw [run_store Tryd.prog w a _ _ rfl]
  simp [stored, hc, hf]
/-- A number's bits as a number with a sign. -/
def rwI (b : Nat) : Int := IntKind.i64.wrap ((Fl.canon b : Nat) : Int)
theorem rwI_wf (b : Nat) : Wf64 (rwI b) := by unfold rwI Wf64; rw [IntKind.wrap_i64]; omega
def u64N (x : Int) : Nat := (IntKind.u64.wrap x).toNat
theorem u64N_eq (x : Int) : IntKind.u64.wrap x = ((u64N x : Nat) : Int) ∧ u64N x < 18446744073709551616 := by
  unfold u64N; rw [IntKind.wrap_u64]; omega
theorem u64N_rw (b : Nat) (hb : b < 18446744073709551616) : u64N (rwI b) = Fl.canon b := by
  have := Fl.canon_lt b hb
  unfold u64N rwI; rw [IntKind.wrap_u64, IntKind.wrap_i64]; omega
theorem rw_snoc (l : List Nat) (k b : Nat) (h : l[k]? = some b) : (l.map rwI).take (k + 1) = (l.map rwI).take k ++ [rwI b] := by
  rw [List.take_add_one, List.getElem?_map, h]; rfl
def RRF (W : World) (l : List Nat) (n : Nat) (u v : Value) (wr : World) : Prop := ∃ (k : Nat) (A : Option Addr) (cap : Nat), k ≤ n ∧ v = .int .i64 (k : Int) ∧ u = .slice A k cap ∧ OwnI wr W.heap.size A k cap ((l.map rwI).take k) ∧ Below W.heap.size W wr
end Go.Proofs.YtpobfgokikfmbaaDoor

set_option linter.unusedSimpArgs false
set_option linter.unusedVariables false
set_option maxRecDepth 8000
namespace Go.Proofs.YtpobfgokikfmbaaDoor
open Go.RowKit Go.WideShapes Col
theorem IsAt.kept {S : Nat → Prop} {w w' : World} {a : Option Addr} {l : List Int} (h : IsAt w a l) (hk : Kept S w w') (ho : ∀ b, a = some b → ¬ S b.block) : IsAt w' a l := fun k x hx => by
  obtain ⟨h1, g, off, h2, h3, h4⟩ := h k x hx
  have e := ho _ h2
  exact ⟨h1, g, off, h2, Nat.lt_of_lt_of_le h3 hk.size, (hk.cell (p := ⟨g, off + k, none⟩) h3 e).trans h4⟩
theorem OwnI.ltI {w : World} {B n cap : Nat} {A : Option Addr} {l : List Int} (h : OwnI w B A n cap l) (k : Nat) (hk : A.map (·.block) = some k) : k < w.heap.size := by
  rcases h.1.2 with ⟨h1, _⟩ | ⟨a, cap', cur, h1, hb, hrow, -⟩
  · injection h1 with e1 e2 e3; rw [e1] at hk; cases hk
  · injection h1 with e1 e2 e3; rw [e1] at hk; simp at hk; subst hk; exact (Array.getElem?_eq_some_iff.1 hrow).1
theorem un_snoc (xs : List Int) (k : Nat) (x : Int) (h : xs[k]? = some x) : (xs.map u64N).take (k + 1) = (xs.map u64N).take k ++ [u64N x] := by
  rw [List.take_add_one, List.getElem?_map, h]; rfl
theorem fill_setN (xs : List Nat) (n k : Nat) (hx : xs.length = k) (hk : k < n) (x : Nat) : (xs ++ List.replicate (n - k) 0).set k x = (xs ++ [x]) ++ List.replicate (n - (k + 1)) 0 := by
  obtain ⟨m, rfl⟩ : ∃ m, n = k + 1 + m := ⟨n - k - 1, by omega⟩
  rw [show k + 1 + m - k = m + 1 by omega, show k + 1 + m - (k + 1) = m by omega, List.replicate_succ, List.set_append_right _ _ (by omega), hx, Nat.sub_self, List.set_cons_zero, List.append_assoc]; rfl
theorem fillN_at (xs : List Nat) (n k : Nat) (hx : xs.length = k) (x : Nat) : ((xs ++ [x]) ++ List.replicate (n - (k + 1)) 0)[k]? = some x := by
  rw [List.append_assoc, List.getElem?_append_right (by omega), hx, Nat.sub_self]; rfl
set_option maxHeartbeats 4000000 in
theorem readReals_yes (g : Nat) (q : List Nat) (w : World) (H : Hid (RdM g q w)) (xs : List Int) (r : List Nat) (ho : Hid (rI q = some (xs, r))) (hok : Hid (∀ x ∈ xs, Fl.canon (u64N x) = u64N x)) (n : Nat) (hn : Hid (n = xs.length)) (hn1 : n ≤ 4096) :
    Calls Tryd.prog 54 #[.pointer (some ⟨g, 0, none⟩)] w fun e w' => ∃ L, e = .returned (.slice (some ⟨L, 0, none⟩) n n) ∧ w.heap.size ≤ L ∧ RowF w' L (xs.map u64N) ∧ RdM g r w' ∧ Kept (Only g) w w' := by
  obtain ⟨iu, hiu, hz0, hz1, hz2⟩ := info_parts infoF64
  have hzb : iu.bytes * n ≤ 281474976710656 := by rw [hz2]; omega
  have hnm : n ≤ maxLen := by unfold maxLen; omega
  have HI := Lib.hid (readInts_any g q w H)
  have hgl := H.out.1.glt
  have HLEN : Hid ((xs.map u64N).length = n) := Lib.hid (by rw [List.length_map]; exact hn.out.symm)
  go_enter Tryd.func54, Tryd.ntmps54
  go_wp2_with (first
    | (go_at_call 50; go_loud (refine (HI.out).mono ?_; intro e w2 h8; rw [ho.out] at h8; have h8 : (∃ A n' cap, e = .returned (.slice A n' cap) ∧ OwnI w2 w.heap.size A n' cap xs) ∧ RdM g r w2 ∧ Kept (Only g) w w2 := h8; obtain ⟨⟨A, n', cap, rfl, h3⟩, h4, h5⟩ := h8; obtain rfl : n' = n := (by have e1 := h3.len; have e2 := hn.out; omega); have HOW := Lib.hid h3; have HRD := Lib.hid h4; have HK := Lib.hid h5; clear h3 h4 h5))
    | (refine wpList_make_full _ rfl (.tmp 10) (.tmp 10) 55 rfl w2.heap.size 34 iu (.float .f64 0) 1 Tryd.underlying55 hiu hz0 hz1 .i64 .i64 _ _ n' rfl rfl rfl rfl hzb hnm (Nat.le_refl _) ?_; intro w3 own hgr; have HRF := Lib.hid (rowF_zeros own); have HB3 : Hid (Below w2.heap.size w2 w3) := Lib.hid ((Below.refl _ w2).grown hgr (Nat.le_refl _) (by intro k hk; cases hk)); clear own hgr))
  obtain ⟨L, hL⟩ : ∃ L, L = w2.heap.size := ⟨_, rfl⟩
  rw [← hL] at HRF ⊢
  have hwL : w.heap.size ≤ L := by rw [hL]; exact HK.out.size
  have HRD3 : Hid (RdM g r w3) := Lib.hid (HRD.out.high (S := fun _ => False) (Kept.of_below HB3.out) fun k e => e.elim)
  have HIS3 : Hid (IsAt w3 A xs) := Lib.hid (HOW.out.isAt.keep HB3.out)
  have HAL : Hid (∀ b, A = some b → b.block ≠ L) := Lib.hid fun b e => by have := HOW.out.ltI b.block (by rw [e]; rfl); omega
  have HK3 : Hid (Kept (Only g) w w3) := Lib.hid (HK.out.trans (Kept.of_below HB3.out))
  clear hL HOW HRD HK HB3 HI
  go_loopw [14] (fun v wr => ∃ k : Nat, k ≤ n' ∧ v = .int .i64 (k : Int) ∧ RowF wr L ((xs.map u64N).take k ++ List.replicate (n' - k) 0) ∧ RdM g r wr ∧ Kept (fun j => j = L) w3 wr) (fun v _ => n' - (intOf v).toNat)
  case atStart => exact ⟨0, Nat.zero_le _, rfl, by simpa using HRF.out, HRD3.out, Kept.refl _ _⟩
  case round =>
    obtain ⟨k, hk, rfl, hrow, hrd, hkp⟩ := hrel
    have HROW := Lib.hid hrow; have HRD := Lib.hid hrd; have HKL := Lib.hid hkp
    clear hrow hrd hkp HRF
    by_cases hlt : k < n'
    · obtain ⟨x, hx⟩ : ∃ x, xs[k]? = some x := ⟨xs[k]'(by have := hn.out; omega), List.getElem?_eq_getElem _⟩
      obtain ⟨-, ga, oa, rfl, hga, hca⟩ := (HIS3.out.kept HKL.out (fun b e h => HAL.out b e h)) k x hx
      have HGA := Lib.hid hga; have HCA := Lib.hid hca
      have HNE : Hid (ga ≠ L) := Lib.hid (HAL.out _ rfl)
      obtain ⟨hu1, hu2⟩ := u64N_eq x
      have HSN := Lib.hid (un_snoc xs k x hx)
      have hcan := hok.out x (List.mem_of_getElem? hx)
      obtain ⟨u, hu⟩ : ∃ u, u = u64N x := ⟨_, rfl⟩
      rw [← hu] at hu1 hu2 hcan HSN
      have hOF := of_any u hu2
      rw [hcan] at hOF
      have HOF := Lib.hid hOF
      have hBI := bits_any u hu2
      rw [hcan] at hBI
      have HBI := Lib.hid hBI
      have f2 := HROW.out.fr k
      obtain ⟨u2, c2⟩ := HROW.out.at k (by rw [List.length_append, List.length_replicate, List.length_take]; have := HLEN.out; omega)
      have HSET := Lib.hid (fill_setN ((xs.map u64N).take k) n' k (by rw [List.length_take]; have := HLEN.out; omega) hlt u)
      have HAT := Lib.hid (fillN_at ((xs.map u64N).take k) n' k (by rw [List.length_take]; have := HLEN.out; omega) u)
      have s1 := run_store_flC wr ⟨L, k, none⟩ u u2 c2 f2
      have HR2 : Hid (RowF (wr.setCell ⟨L, k, none⟩ (.float .f64 u)) L ((xs.map u64N).take (k + 1) ++ List.replicate (n' - (k + 1)) 0)) := Lib.hid (by rw [HSN.out, ← HSET.out]; exact HROW.out.set k u)
      have HK2 : Hid (Kept (fun j => j = L) wr (wr.setCell ⟨L, k, none⟩ (.float .f64 u))) := Lib.hid ((Kept.refl _ _).setCell _ _ (.inl rfl))
      have HRD2 : Hid (RdM g r (wr.setCell ⟨L, k, none⟩ (.float .f64 u))) := Lib.hid (HRD.out.high HK2.out fun j hj => by have hj : j = L := hj; omega)
      clear hx hu hcan hOF hBI hga
      go_upto_region 7 with (go_at_call 78; refine (HOF.out _).mono ?_; rintro e w9 ⟨rfl, rfl⟩)
      clear s1 c2 f2 hca
      generalize wr.setCell ⟨L, k, none⟩ (.float .f64 u) = w4 at *
      have c4 : w4.cell? ⟨L, k, none⟩ = some (.float .f64 u) := HR2.out.cell k u (by rw [HSN.out]; exact HAT.out)
      have huu : ((u : Int) == (u : Int)) = true := by simp
      go_wp2_with (first
        | (go_at_call 79; refine (HBI.out _).mono ?_; rintro e w9 ⟨rfl, rfl⟩)
        | (go_at_call 34; (with_reducible refine (check_true _ _).mono ?_); rintro e w9 ⟨rfl, rfl⟩))
      go_roundw
      case rel => exact ⟨k + 1, by omega, by go_num, HR2.out, HRD2.out, HKL.out.trans HK2.out⟩
      case measure => simp [intOf]; omega
    · obtain rfl : k = n' := by omega
      go_wp2
      go_ret
      have hr := HROW.out
      rw [Nat.sub_self, List.replicate_zero, List.append_nil, List.take_of_length_le (by have := HLEN.out; omega)] at hr
      exact ⟨L, rfl, hwL, hr, HRD.out, HK3.out.trans' HKL.out fun j hj => .inr (by have hj : j = L := hj; omega)⟩
/-- What the list's cell holds behind the reading. -/
def RdLF (us : List Nat) (n cl B : Nat) (b : Bool) (w : World) : Prop := b = true ∧ ∃ L, w.heap[cl]? = some (.cells #[.slice (some ⟨L, 0, none⟩) n n] 55 (0, 0)) ∧ RowF w L us ∧ B ≤ L
theorem off_slice' {w : World} {cl y z : Nat} {A x : Option Addr} {q : List Nat} {ty : TypeId} (h : ByAt w A q) (hr : w.heap[cl]? = some (.cells #[.slice x y z] ty (0, 0))) : Off (fun k => k = cl) A q := off_slice h hr
set_option maxHeartbeats 2000000 in
theorem listFnF_yes (g bf cl : Nat) (q : List Nat) (hql : q.length ≤ 1099511627776) (xs : List Int) (ho : Hid (rI q = some (xs, []))) (hok : Hid (∀ x ∈ xs, Fl.canon (u64N x) = u64N x)) (n : Nat) (hn : Hid (n = xs.length)) (hn1 : n ≤ 4096) (w : World) (HR : Hid (Rd w g q)) (Hf : Hid (w.heap[bf]? = some (.cells #[.func (.func 54) #[] #[]] 100 (0, 0)))) (Hc : Hid (w.heap[cl]? = some (.cells #[.slice none 0 0] 55 (0, 0)))) (h1 : cl < g) (h2 : bf < g) :
    Calls Tryd.prog 77 #[.pointer (some ⟨g, 0, none⟩), .pointer (some ⟨bf, 0, none⟩), .pointer (some ⟨cl, 0, none⟩)] w (Tried g (fun k => k = cl) (RdLF (xs.map u64N) n cl (g + 1)) w) := by
  have hc : w.cell? ⟨bf, 0, none⟩ = some (.func (.func 54) #[] #[]) := by rw [cell_of_row _ _ _ _ _ _ Hf.out]; rfl
  have HI := Lib.hid (readReals_yes g q w (Lib.hid ⟨HR.out, hql⟩) xs [] ho hok n hn hn1)
  have hgl := HR.out.glt
  go_enter Tryd.func77, Tryd.ntmps77
  go_wp2_with (go_at_call 54; refine (HI.out).mono ?_; rintro e w3 ⟨L, rfl, hL, hrf, hrd, hk⟩; have HRF := Lib.hid hrf; have HRD := Lib.hid hrd; have HK := Lib.hid hk; have hrow := hk.heap Hc.out (fun e => by have e : cl = g := e; omega); have c3 : w3.cell? ⟨cl, 0, none⟩ = some (.slice none 0 0) := (by rw [cell_of_row _ _ _ _ _ _ hrow]; rfl); have f3 : w3.frozen? ⟨cl, 0, none⟩ = false := row_frozen hrow 0; have HROW := Lib.hid hrow; clear hrf hrd hk hrow)
  have hk : Kept (fun k => k = cl) w3 (w3.setCell ⟨cl, 0, none⟩ (.slice (some ⟨L, 0, none⟩) n n)) := (Kept.refl _ _).setCell _ _ (.inl rfl)
  have hrow2 : (w3.setCell ⟨cl, 0, none⟩ (.slice (some ⟨L, 0, none⟩) n n)).heap[cl]? = some (.cells #[.slice (some ⟨L, 0, none⟩) n n] 55 (0, 0)) := by
    have := HROW.out; rw [World.setCell]; simp [Array.getElem?_modify, this]
  have hkk : Kept (fun k => k = cl ∨ k = g) w (w3.setCell ⟨cl, 0, none⟩ (.slice (some ⟨L, 0, none⟩) n n)) := (HK.out.mono fun k hk => .inl (.inr hk)).setCell _ _ (.inl (.inl rfl))
  refine bodyPost_end (results_none rfl _ _ _) rfl ⟨hkk, .inl ⟨[], rfl, HRD.out.1.high' hk (fun k hk => by have hk : k = cl := hk; omega) (fun A C h => off_slice h.bytes HROW.out), rfl, L, hrow2, HRF.out.keep hk (fun e => by have e : L = cl := e; omega), by omega⟩⟩
set_option maxHeartbeats 2000000 in
theorem readRealsC_yes (A : Option Addr) (C : Nat) (q : List Nat) (m : Nat) (hm : Hid (m = q.length)) (hm4 : m ≤ 1099511627776) (hC : m ≤ C) (hC' : C ≤ maxLen) (xs : List Int) (ho : Hid (rI q = some (xs, []))) (hok : Hid (∀ x ∈ xs, Fl.canon (u64N x) = u64N x)) (n : Nat) (hn : Hid (n = xs.length)) (hn1 : n ≤ 4096) (w : World) (HA : Hid (ByAt w A q)) :
    Calls Tryd.prog 33 #[.slice A m C] w fun e w' => ∃ L, e = .returned (.tuple #[.slice (some ⟨L, 0, none⟩) n n, .int .i64 0]) ∧ RowF w' L (xs.map u64N) ∧ Below w.heap.size w w' := by
  have hin : Calls Tryd.prog 53 #[.slice A m C, .func (.func 54) #[] #[]] w fun e w' => ∃ L, e = .returned (.tuple #[.slice (some ⟨L, 0, none⟩) n n, .int .i64 0]) ∧ RowF w' L (xs.map u64N) ∧ Below w.heap.size w w' := by
    obtain ⟨bf, w1, hbf, hw1, hrow1, hb1, hbf1⟩ := alloc_pt w (.func (.func 54) #[] #[]) 100
    obtain ⟨cl, w2, hcl, hw2, hrow2, hb2, hcl2⟩ := alloc_pt w1 (.slice none 0 0) 55
    have HW : Hid ((w.alloc (.cells #[.func (.func 54) #[] #[]] 100)).alloc (.cells #[.slice none 0 0] 55) = w2) := Lib.hid (by rw [hw2, hw1])
    have hsz : w1.heap.size = w.heap.size + 1 := by rw [hw1]; simp
    have HBF := Lib.hid hbf; have HCL : Hid (cl = w.heap.size + 1) := Lib.hid (by rw [hcl, hsz])
    have HB2 : Hid (Below w.heap.size w w2) := Lib.hid (below_to hb1 hb2)
    have hrf2 := (Kept.of_below (S := fun _ => False) hb2).heap hrow1 fun e => e
    have ht := try_any 77 #[] #[.pointer (some ⟨bf, 0, none⟩), .pointer (some ⟨cl, 0, none⟩)] A C q m hm hC hC' w2 (Lib.hid (HA.out.keep HB2.out)) (fun k => k = cl) (fun k hk => by have hk : k = cl := hk; omega)
      (fun g => RdLF (xs.map u64N) n cl (g + 1)) (RdLF (xs.map u64N) n cl w2.heap.size) (fun g b v2 v3 hg h hk => by
        obtain ⟨hb, L, hrow, hrf, hl⟩ := h
        exact ⟨hb, L, hk.heap hrow fun e => by have e : cl = g := e; omega, hrf.keep hk (fun e => by have e : L = g := e; omega), by omega⟩)
      (fun g v1 hg hr hb => listFnF_yes g bf cl q (by rw [← hm.out]; exact hm4) xs ho hok n hn hn1 v1 (Lib.hid hr) (Lib.hid ((Kept.of_below (S := fun _ => False) hb).heap hrf2 fun e => e)) (Lib.hid ((Kept.of_below (S := fun _ => False) hb).heap hrow2 fun e => e)) (by omega) (by omega))
      (fun _ _ => by first | rfl | kernel_rfl)
    have HT := Lib.hid ht
    clear ht hbf hw1 hrow1 hb1 hcl hw2 hrow2 hb2 hrf2 hbf1
    go_enter Tryd.func53, Tryd.ntmps53
    go_upto_region 2 with fail
    have e1 : w.heap.size = bf := HBF.out.symm
    have e2 : w.heap.size + 1 = cl := HCL.out.symm
    have hx : ∀ w3 : World, Kept (fun k => k = cl) w2 w3 → Below w.heap.size w w3 := fun w3 hk => HB2.out.trans (hk.below (B := w.heap.size) (by omega) fun k hk => by have hk : k = cl := hk; omega)
    have HX := Lib.hid hx
    clear hx
    rw [HW.out, e2, e1]
    clear e1 e2
    go_wp2_with (go_at_call 10; (with_reducible refine (HT.out).mono ?_); rintro e w3 ⟨b, rfl, ⟨rfl, L, hrow9, hrf9, hl9⟩, hk⟩; have HB3 := Lib.hid (HX.out w3 hk); have HRF := Lib.hid hrf9; have c9c : w3.cell? ⟨cl, 0, none⟩ = some (.slice (some ⟨L, 0, none⟩) n n) := (by rw [cell_of_row _ _ _ _ _ _ hrow9]; rfl); clear hk hrow9 hrf9)
    go_ret2
    exact ⟨L, rfl, HRF.out, HB3.out⟩
  have HT := Lib.hid hin
  clear hin
  go_enter Tryd.func33, Tryd.ntmps33
  go_wp2_with (go_at_call 53; (with_reducible refine (HT.out).mono ?_); rintro e w3 ⟨L, rfl, hrf, hb⟩; have HB := Lib.hid hb; have HRF := Lib.hid hrf; clear hb hrf)
  go_ret2
  exact ⟨L, rfl, HRF.out, HB.out⟩
end Go.Proofs.YtpobfgokikfmbaaDoor

set_option linter.unusedSimpArgs false
set_option linter.unusedVariables false
set_option maxRecDepth 8000
namespace Go.Proofs.YtpobfgokikfmbaaDoor
open Go.RowKit Go.WideShapes Col
namespace Col
theorem rruns_len : ∀ (m : Nat) (q : List Nat) (xs : List Int) (r : List Nat), rruns m q = some (xs, r) → xs.length = m := by
  intro m
  induction m using Nat.strongRecOn with
  | _ m ih =>
    intro q xs r h
    rcases m with _ | m
    · rw [rruns_zero] at h; injection h with h; injection h with h1 h2; rw [← h1]; rfl
    · rcases hz : zP q with _ | ⟨x, r1⟩
      · rw [rruns_no1 hz] at h; cases h
      · rcases hu : uP m r1 with _ | ⟨k, r2⟩
        · rw [rruns_no2 hz hu] at h; cases h
        · have hk : k ≤ m := (uP_some hu).2
          rw [rruns_yes hz hu] at h
          rcases hr : rruns (m - k) r2 with _ | ⟨ys, r3⟩
          · rw [hr] at h; cases h
          · have := ih (m - k) (by omega) r2 ys r3 hr
            rw [hr] at h; injection h with h; injection h with h1 h2
            rw [← h1]; simp; omega
theorem rdDelta_len {n : Nat} {q r : List Nat} {xs : List Int} (h : rdDelta n q = some (xs, r)) : xs.length = n := by
  unfold rdDelta at h
  rcases ho : runS dstep n (0, q) with _ | ⟨ys, s⟩
  · rw [ho] at h; cases h
  · rw [ho] at h; injection h with h; injection h with h1 h2; rw [← h1]; exact runS_len ho
theorem rpk_len {n : Nat} {q r : List Nat} {xs : List Int} (h : rpk n q = some (xs, r)) : xs.length = n := by
  by_cases h0 : n = 0
  · unfold rpk at h; rw [if_pos h0] at h; injection h with h; injection h with h1 h2; rw [← h1, h0]; rfl
  · rcases hz : zP q with _ | ⟨mn, r1⟩
    · unfold rpk at h; rw [if_neg h0, hz] at h; cases h
    · rw [rpk_of h0 hz] at h
      rcases r1 with _ | ⟨W, r2⟩
      · cases h
      · by_cases hc : W ≤ 64 ∧ (n * W + 7) / 8 ≤ r2.length ∧ vlb (r2.take ((n * W + 7) / 8)) < 2 ^ (n * W)
        · rw [rpk2_yes rfl hc] at h; injection h with h; injection h with h1 h2; rw [← h1]; simp
        · rw [rpk2_no rfl hc] at h; cases h
theorem rI_len {q r : List Nat} {xs : List Int} (h : rI q = some (xs, r)) : xs.length ≤ 4096 := by
  rcases q with _ | ⟨way, q⟩
  · cases h
  · rcases hu : uP 4096 q with _ | ⟨n, s⟩
    · rw [rI_no hu] at h; cases h
    · have hn : n ≤ 4096 := (uP_some hu).2
      rw [rI_yes hu] at h
      unfold rW at h
      split at h
      · rw [runS_len h]; exact hn
      · split at h
        · rw [rdDelta_len h]; exact hn
        · split at h
          · rw [rruns_len _ _ _ _ h]; exact hn
          · split at h
            · rw [rpk_len h]; exact hn
            · cases h
/-- Is each of some numbers the one form of a number with a point? -/
def okF (xs : List Int) : Bool := xs.all fun x => decide (Fl.canon (u64N x) = u64N x)
theorem okF_take {xs : List Int} {k : Nat} {x : Int} (h : okF (xs.take k) = true) (hx : xs[k]? = some x) (hc : Fl.canon (u64N x) = u64N x) : okF (xs.take (k + 1)) = true := by
  rw [List.take_add_one, hx]; unfold okF at *; simp [h, hc]
theorem okF_no {xs : List Int} {k : Nat} {x : Int} (hx : xs[k]? = some x) (hc : ¬ Fl.canon (u64N x) = u64N x) : okF xs = false := by
  unfold okF
  rw [List.all_eq_false]
  exact ⟨x, List.mem_of_getElem? hx, by simpa using hc⟩
/-- Numbers with a point read: the words, and the rest. -/
def rF (q : List Nat) : Option (List Nat × List Nat) := match rI q with
  | some p => if okF p.1 then some (p.1.map u64N, p.2) else none
  | none => none
theorem rF_no {q : List Nat} (h : rI q = none) : rF q = none := by unfold rF; rw [h]
theorem rF_bad {q r : List Nat} {xs : List Int} (h : rI q = some (xs, r)) (hb : okF xs = false) : rF q = none := by unfold rF; rw [h]; simp [hb]
theorem rF_yes {q r : List Nat} {xs : List Int} (h : rI q = some (xs, r)) (hb : okF xs = true) : rF q = some (xs.map u64N, r) := by unfold rF; rw [h]; simp [hb]
end Col
/-- How a reading of numbers with a point ends. -/
def FEnds (g : Nat) (o : Option (List Nat × List Nat)) (w : World) (e : Ending) (w' : World) : Prop := match o with
  | some p => ∃ L n, e = .returned (.slice (some ⟨L, 0, none⟩) n n) ∧ n = p.1.length ∧ w.heap.size ≤ L ∧ RowF w' L p.1 ∧ RdM g p.2 w' ∧ Kept (Only g) w w'
  | none => e = .panicked [gu g] ∧ Gone w' g ∧ Kept (Only g) w w'
theorem RowF.stay {S : Nat → Prop} {w w' : World} {g : Nat} {l : List Nat} (h : RowF w g l) (hk : Kept S w w') (hg : ¬ S g) : RowF w' g l := hk.heap h hg
set_option maxHeartbeats 4000000 in
theorem readReals_some (g : Nat) (q : List Nat) (w : World) (H : Hid (RdM g q w)) (xs : List Int) (r : List Nat) (ho : Hid (rI q = some (xs, r))) (n : Nat) (hn : Hid (n = xs.length)) (hn1 : n ≤ 4096) :
    Calls Tryd.prog 54 #[.pointer (some ⟨g, 0, none⟩)] w (FEnds g (rF q) w) := by
  obtain ⟨iu, hiu, hz0, hz1, hz2⟩ := info_parts infoF64
  have hzb : iu.bytes * n ≤ 281474976710656 := by rw [hz2]; omega
  have hnm : n ≤ maxLen := by unfold maxLen; omega
  have HI := Lib.hid (readInts_any g q w H)
  have hgl := H.out.1.glt
  have HLEN : Hid ((xs.map u64N).length = n) := Lib.hid (by rw [List.length_map]; exact hn.out.symm)
  go_enter Tryd.func54, Tryd.ntmps54
  go_wp2_with (first
    | (go_at_call 50; go_loud (refine (HI.out).mono ?_; intro e w2 h8; rw [ho.out] at h8; have h8 : (∃ A n' cap, e = .returned (.slice A n' cap) ∧ OwnI w2 w.heap.size A n' cap xs) ∧ RdM g r w2 ∧ Kept (Only g) w w2 := h8; obtain ⟨⟨A, n', cap, rfl, h3⟩, h4, h5⟩ := h8; obtain rfl : n' = n := (by have e1 := h3.len; have e2 := hn.out; omega); have HOW := Lib.hid h3; have HRD := Lib.hid h4; have HK := Lib.hid h5; clear h3 h4 h5))
    | (refine wpList_make_full _ rfl (.tmp 10) (.tmp 10) 55 rfl w2.heap.size 34 iu (.float .f64 0) 1 Tryd.underlying55 hiu hz0 hz1 .i64 .i64 _ _ n' rfl rfl rfl rfl hzb hnm (Nat.le_refl _) ?_; intro w3 own hgr; have HRF := Lib.hid (rowF_zeros own); have HB3 : Hid (Below w2.heap.size w2 w3) := Lib.hid ((Below.refl _ w2).grown hgr (Nat.le_refl _) (by intro k hk; cases hk)); clear own hgr))
  obtain ⟨L, hL⟩ : ∃ L, L = w2.heap.size := ⟨_, rfl⟩
  rw [← hL] at HRF ⊢
  have hwL : w.heap.size ≤ L := by rw [hL]; exact HK.out.size
  have HRD3 : Hid (RdM g r w3) := Lib.hid (HRD.out.high (S := fun _ => False) (Kept.of_below HB3.out) fun k e => e.elim)
  have HIS3 : Hid (IsAt w3 A xs) := Lib.hid (HOW.out.isAt.keep HB3.out)
  have HAL : Hid (∀ b, A = some b → b.block ≠ L) := Lib.hid fun b e => by have := HOW.out.ltI b.block (by rw [e]; rfl); omega
  have HK3 : Hid (Kept (Only g) w w3) := Lib.hid (HK.out.trans (Kept.of_below HB3.out))
  clear hL HOW HRD HK HB3 HI
  go_loopw [14] (fun v wr => ∃ k : Nat, k ≤ n' ∧ v = .int .i64 (k : Int) ∧ RowF wr L ((xs.map u64N).take k ++ List.replicate (n' - k) 0) ∧ RdM g r wr ∧ Kept (fun j => j = L) w3 wr ∧ okF (xs.take k) = true) (fun v _ => n' - (intOf v).toNat)
  case atStart => exact ⟨0, Nat.zero_le _, rfl, by simpa using HRF.out, HRD3.out, Kept.refl _ _, by rw [List.take_zero]; rfl⟩
  case round =>
    obtain ⟨k, hk, rfl, hrow, hrd, hkp, hokk⟩ := hrel
    have HOKK := Lib.hid hokk
    clear hokk
    have HROW := Lib.hid hrow; have HRD := Lib.hid hrd; have HKL := Lib.hid hkp
    clear hrow hrd hkp HRF
    by_cases hlt : k < n'
    · obtain ⟨x, hx⟩ : ∃ x, xs[k]? = some x := ⟨xs[k]'(by have := hn.out; omega), List.getElem?_eq_getElem _⟩
      obtain ⟨-, ga, oa, rfl, hga, hca⟩ := (HIS3.out.kept HKL.out (fun b e h => HAL.out b e h)) k x hx
      have HGA := Lib.hid hga; have HCA := Lib.hid hca
      have HNE : Hid (ga ≠ L) := Lib.hid (HAL.out _ rfl)
      obtain ⟨hu1, hu2⟩ := u64N_eq x
      have HSN := Lib.hid (un_snoc xs k x hx)
      by_cases hcan : Fl.canon (u64N x) = u64N x
      · have HOK1 := Lib.hid (okF_take HOKK.out hx hcan)
        obtain ⟨u, hu⟩ : ∃ u, u = u64N x := ⟨_, rfl⟩
        rw [← hu] at hu1 hu2 hcan HSN
        have hOF := of_any u hu2
        rw [hcan] at hOF
        have HOF := Lib.hid hOF
        have hBI := bits_any u hu2
        rw [hcan] at hBI
        have HBI := Lib.hid hBI
        have f2 := HROW.out.fr k
        obtain ⟨u2, c2⟩ := HROW.out.at k (by rw [List.length_append, List.length_replicate, List.length_take]; have := HLEN.out; omega)
        have HSET := Lib.hid (fill_setN ((xs.map u64N).take k) n' k (by rw [List.length_take]; have := HLEN.out; omega) hlt u)
        have HAT := Lib.hid (fillN_at ((xs.map u64N).take k) n' k (by rw [List.length_take]; have := HLEN.out; omega) u)
        have s1 := run_store_flC wr ⟨L, k, none⟩ u u2 c2 f2
        have HR2 : Hid (RowF (wr.setCell ⟨L, k, none⟩ (.float .f64 u)) L ((xs.map u64N).take (k + 1) ++ List.replicate (n' - (k + 1)) 0)) := Lib.hid (by rw [HSN.out, ← HSET.out]; exact HROW.out.set k u)
        have HK2 : Hid (Kept (fun j => j = L) wr (wr.setCell ⟨L, k, none⟩ (.float .f64 u))) := Lib.hid ((Kept.refl _ _).setCell _ _ (.inl rfl))
        have HRD2 : Hid (RdM g r (wr.setCell ⟨L, k, none⟩ (.float .f64 u))) := Lib.hid (HRD.out.high HK2.out fun j hj => by have hj : j = L := hj; omega)
        clear hx hu hcan hOF hBI hga
        go_upto_region 7 with (go_at_call 78; refine (HOF.out _).mono ?_; rintro e w9 ⟨rfl, rfl⟩)
        clear s1 c2 f2 hca
        generalize wr.setCell ⟨L, k, none⟩ (.float .f64 u) = w4 at *
        have c4 : w4.cell? ⟨L, k, none⟩ = some (.float .f64 u) := HR2.out.cell k u (by rw [HSN.out]; exact HAT.out)
        have huu : ((u : Int) == (u : Int)) = true := by simp
        go_wp2_with (first
          | (go_at_call 79; refine (HBI.out _).mono ?_; rintro e w9 ⟨rfl, rfl⟩)
          | (go_at_call 34; (with_reducible refine (check_true _ _).mono ?_); rintro e w9 ⟨rfl, rfl⟩))
        go_roundw
        case rel => exact ⟨k + 1, by omega, by go_num, HR2.out, HRD2.out, HKL.out.trans HK2.out, HOK1.out⟩
        case measure => simp [intOf]; omega
      · have HNO := Lib.hid (rF_bad ho.out (okF_no hx hcan))
        have hcl := Fl.canon_lt (u64N x) hu2
        have hcc := Fl.canon_canon (u64N x)
        obtain ⟨v, hv⟩ : ∃ v, v = u64N x := ⟨_, rfl⟩
        rw [← hv] at hu1 hu2 hcan hcl hcc
        obtain ⟨u, hu⟩ : ∃ u, u = Fl.canon v := ⟨_, rfl⟩
        rw [← hu] at hcan hcl hcc
        have hOF := of_any v hu2
        rw [← hu] at hOF
        have HOF := Lib.hid hOF
        have hBI := bits_any u hcl
        rw [hcc] at hBI
        have HBI := Lib.hid hBI
        have f2 := HROW.out.fr k
        obtain ⟨u2, c2⟩ := HROW.out.at k (by rw [List.length_append, List.length_replicate, List.length_take]; have := HLEN.out; omega)
        have HSET := Lib.hid (fill_setN ((xs.map u64N).take k) n' k (by rw [List.length_take]; have := HLEN.out; omega) hlt u)
        have HAT := Lib.hid (fillN_at ((xs.map u64N).take k) n' k (by rw [List.length_take]; have := HLEN.out; omega) u)
        have s1 := run_store_flC wr ⟨L, k, none⟩ u u2 c2 f2
        have HR2 : Hid (RowF (wr.setCell ⟨L, k, none⟩ (.float .f64 u)) L (((xs.map u64N).take k ++ [u]) ++ List.replicate (n' - (k + 1)) 0)) := Lib.hid (by rw [← HSET.out]; exact HROW.out.set k u)
        have HK2 : Hid (Kept (fun j => j = L) wr (wr.setCell ⟨L, k, none⟩ (.float .f64 u))) := Lib.hid ((Kept.refl _ _).setCell _ _ (.inl rfl))
        have HRD2 : Hid (RdM g r (wr.setCell ⟨L, k, none⟩ (.float .f64 u))) := Lib.hid (HRD.out.high HK2.out fun j hj => by have hj : j = L := hj; omega)
        clear hx hu hv hcl hcc hOF hBI hga
        go_upto_region 7 with (go_at_call 78; refine (HOF.out _).mono ?_; rintro e w9 ⟨rfl, rfl⟩)
        clear s1 c2 f2 hca
        generalize wr.setCell ⟨L, k, none⟩ (.float .f64 u) = w4 at *
        have c4 : w4.cell? ⟨L, k, none⟩ = some (.float .f64 u) := HR2.out.cell k u HAT.out
        have huu : ((u : Int) == (v : Int)) = false := by simpa using (show ¬ (u : Int) = (v : Int) by omega)
        obtain ⟨A9, C9, hRA⟩ := HRD2.out.1
        have HCF := Lib.hid (check_false g C9 A9 r w4 (Lib.hid hRA))
        clear hRA
        go_wp2_with (first
          | (go_at_call 79; refine (HBI.out _).mono ?_; rintro e w9 ⟨rfl, rfl⟩)
          | (go_at_call 34; (with_reducible refine (HCF.out).mono ?_); rintro e w9 ⟨rfl, h8, h9⟩))
        rw [HNO.out]
        exact ⟨rfl, rfl, h8, (HK3.out.trans' (HKL.out.trans HK2.out) fun j hj => .inr (by have hj : j = L := hj; omega)).trans h9⟩
    · obtain rfl : k = n' := by omega
      go_wp2
      go_ret
      have hr := HROW.out
      rw [Nat.sub_self, List.replicate_zero, List.append_nil, List.take_of_length_le (by have := HLEN.out; omega)] at hr
      rw [rF_yes ho.out (by have := HOKK.out; rwa [List.take_of_length_le (by have := hn.out; omega)] at this)]
      exact ⟨L, k, rfl, HLEN.out.symm, hwL, hr, HRD.out, HK3.out.trans' HKL.out fun j hj => .inr (by have hj : j = L := hj; omega)⟩
theorem readReals_any (g : Nat) (q : List Nat) (w : World) (H : Hid (RdM g q w)) :
    Calls Tryd.prog 54 #[.pointer (some ⟨g, 0, none⟩)] w (FEnds g (rF q) w) := by
  rcases ho : rI q with _ | ⟨xs, r⟩
  · have HO := Lib.hid ho
    clear ho
    have HI := Lib.hid (readInts_any g q w H)
    go_enter Tryd.func54, Tryd.ntmps54
    go_wp2_with (go_at_call 50; refine (HI.out).mono ?_; intro e w2 h8; rw [HO.out] at h8; obtain ⟨rfl, h1, h2⟩ := h8)
    rw [rF_no HO.out]
    exact ⟨rfl, rfl, h1, h2⟩
  · exact readReals_some g q w H xs r (Lib.hid ho) xs.length (Lib.hid rfl) (rI_len ho)
end Go.Proofs.YtpobfgokikfmbaaDoor

set_option linter.unusedSimpArgs false
set_option linter.unusedVariables false
set_option maxRecDepth 8000
namespace Go.Proofs.YtpobfgokikfmbaaDoor
open Go.RowKit Go.WideShapes Col
namespace Col
/-- Numbers with a point that are all of some bytes. -/
def rFL (q : List Nat) : Option (List Nat) := match rF q with
  | some (us, []) => some us
  | _ => none
theorem rFL_some {q us : List Nat} (h : rF q = some (us, [])) : rFL q = some us := by unfold rFL; rw [h]
theorem rFL_none {q : List Nat} (h : rF q = none) : rFL q = none := by unfold rFL; rw [h]
theorem rFL_left {q r us : List Nat} (h : rF q = some (us, r)) (hr : r ≠ []) : rFL q = none := by
  unfold rFL; rw [h]
  rcases r with _ | ⟨x, r⟩
  · exact (hr rfl).elim
  · rfl
end Col
/-- What the list's cell holds behind the reading. -/
def RdFA (q : List Nat) (cl B : Nat) (b : Bool) (w : World) : Prop := match b with
  | true => ∃ L n us, rFL q = some us ∧ n = us.length ∧ w.heap[cl]? = some (.cells #[.slice (some ⟨L, 0, none⟩) n n] 55 (0, 0)) ∧ RowF w L us ∧ B ≤ L
  | false => rFL q = none
theorem RdFA.keep {q : List Nat} {cl B B' g : Nat} {b : Bool} {w w' : World} (h : RdFA q cl B b w) (hk : Kept (Only g) w w') (h1 : cl ≠ g) (h2 : g < B) (hB : B' ≤ B) : RdFA q cl B' b w' := by
  cases b with
  | false => exact h
  | true =>
    obtain ⟨L, n, us, e1, e2, hrow, hrf, hl⟩ := h
    exact ⟨L, n, us, e1, e2, hk.heap hrow fun e => h1 e, hrf.keep hk (fun e => by have e : L = g := e; omega), by omega⟩
theorem rdfa_no {q : List Nat} {cl B : Nat} {b : Bool} {w : World} (h : rFL q = none) (hr : RdFA q cl B b w) : b = false := by
  rcases b with _ | _
  · rfl
  · obtain ⟨L, n, us, e1, -⟩ := hr
    rw [h] at e1; cases e1
theorem rdfa_yes {q us : List Nat} {cl B : Nat} {b : Bool} {w : World} (h : rFL q = some us) (hr : RdFA q cl B b w) : b = true := by
  rcases b with _ | _
  · have hr : rFL q = none := hr
    rw [h] at hr; cases hr
  · rfl
set_option maxHeartbeats 2000000 in
theorem listFnF_any (g bf cl : Nat) (q : List Nat) (hql : q.length ≤ 1099511627776) (w : World) (HR : Hid (Rd w g q)) (Hf : Hid (w.heap[bf]? = some (.cells #[.func (.func 54) #[] #[]] 100 (0, 0)))) (Hc : Hid (w.heap[cl]? = some (.cells #[.slice none 0 0] 55 (0, 0)))) (h1 : cl < g) (h2 : bf < g) :
    Calls Tryd.prog 77 #[.pointer (some ⟨g, 0, none⟩), .pointer (some ⟨bf, 0, none⟩), .pointer (some ⟨cl, 0, none⟩)] w (Tried g (fun k => k = cl) (RdFA q cl (g + 1)) w) := by
  have hc : w.cell? ⟨bf, 0, none⟩ = some (.func (.func 54) #[] #[]) := by rw [cell_of_row _ _ _ _ _ _ Hf.out]; rfl
  have HI := Lib.hid (readReals_any g q w (Lib.hid ⟨HR.out, hql⟩))
  have hgl := HR.out.glt
  rcases ho : rF q with _ | ⟨us, r⟩
  · have HO := Lib.hid ho
    clear ho
    go_enter Tryd.func77, Tryd.ntmps77
    go_wp2_with (go_at_call 54; refine (HI.out).mono ?_; intro e w3 h8; rw [HO.out] at h8; obtain ⟨rfl, h1, h2⟩ := h8)
    exact ⟨rfl, h2.mono fun k hk => .inl (.inr hk), .inr ⟨rfl, h1, rFL_none HO.out⟩⟩
  · have HO := Lib.hid ho
    clear ho
    go_enter Tryd.func77, Tryd.ntmps77
    go_wp2_with (go_at_call 54; refine (HI.out).mono ?_; intro e w3 h8; rw [HO.out] at h8; obtain ⟨L, n, rfl, hn, hL, hrf, hrd, hk⟩ := h8; have HN := Lib.hid hn; have HL := Lib.hid hL; have HRF := Lib.hid hrf; have HRD := Lib.hid hrd; have HK := Lib.hid hk; have hrow := hk.heap Hc.out (fun e => by have e : cl = g := e; omega); have c3 : w3.cell? ⟨cl, 0, none⟩ = some (.slice none 0 0) := (by rw [cell_of_row _ _ _ _ _ _ hrow]; rfl); have f3 : w3.frozen? ⟨cl, 0, none⟩ = false := row_frozen hrow 0; have HROW := Lib.hid hrow; clear hn hL hrf hrd hk hrow)
    have hk : Kept (fun k => k = cl) w3 (w3.setCell ⟨cl, 0, none⟩ (.slice (some ⟨L, 0, none⟩) n n)) := (Kept.refl _ _).setCell _ _ (.inl rfl)
    have hrow2 : (w3.setCell ⟨cl, 0, none⟩ (.slice (some ⟨L, 0, none⟩) n n)).heap[cl]? = some (.cells #[.slice (some ⟨L, 0, none⟩) n n] 55 (0, 0)) := by
      have := HROW.out; rw [World.setCell]; simp [Array.getElem?_modify, this]
    have hkk : Kept (fun k => k = cl ∨ k = g) w (w3.setCell ⟨cl, 0, none⟩ (.slice (some ⟨L, 0, none⟩) n n)) := (HK.out.mono fun k hk => .inl (.inr hk)).setCell _ _ (.inl (.inl rfl))
    have hL := HL.out
    refine bodyPost_end (results_none rfl _ _ _) rfl ⟨hkk, .inl ⟨r, rfl, HRD.out.1.high' hk (fun k hk => by have hk : k = cl := hk; omega) (fun A C h => off_slice h.bytes HROW.out), ?_⟩⟩
    by_cases hr : r = []
    · subst hr
      exact ⟨L, n, us, rFL_some HO.out, HN.out, hrow2, HRF.out.keep hk (fun e => by have e : L = cl := e; omega), by omega⟩
    · have : decide (r = []) = false := by simpa using hr
      rw [this]
      exact rFL_left HO.out hr
/-- How ReadReals ends. -/
def RFEnds (o : Option (List Nat)) (w : World) (e : Ending) (w' : World) : Prop := match o with
  | some us => (∃ L n, e = .returned (.tuple #[.slice (some ⟨L, 0, none⟩) n n, .int .i64 0]) ∧ n = us.length ∧ RowF w' L us) ∧ Below w.heap.size w w'
  | none => e = .returned (.tuple #[.slice none 0 0, .int .i64 3]) ∧ Below w.heap.size w w'
set_option maxHeartbeats 2000000 in
theorem readListF_any (A : Option Addr) (C : Nat) (q : List Nat) (n : Nat) (hn : Hid (n = q.length)) (hn4 : n ≤ 1099511627776) (hC : n ≤ C) (hC' : C ≤ maxLen) (w : World) (HA : Hid (ByAt w A q)) :
    Calls Tryd.prog 53 #[.slice A n C, .func (.func 54) #[] #[]] w (RFEnds (rFL q) w) := by
  obtain ⟨bf, w1, hbf, hw1, hrow1, hb1, hbf1⟩ := alloc_pt w (.func (.func 54) #[] #[]) 100
  obtain ⟨cl, w2, hcl, hw2, hrow2, hb2, hcl2⟩ := alloc_pt w1 (.slice none 0 0) 55
  have HW : Hid ((w.alloc (.cells #[.func (.func 54) #[] #[]] 100)).alloc (.cells #[.slice none 0 0] 55) = w2) := Lib.hid (by rw [hw2, hw1])
  have hsz : w1.heap.size = w.heap.size + 1 := by rw [hw1]; simp
  have HBF := Lib.hid hbf; have HCL : Hid (cl = w.heap.size + 1) := Lib.hid (by rw [hcl, hsz])
  have HB2 : Hid (Below w.heap.size w w2) := Lib.hid (below_to hb1 hb2)
  have hrf2 := (Kept.of_below (S := fun _ => False) hb2).heap hrow1 fun e => e
  have ht := try_any 77 #[] #[.pointer (some ⟨bf, 0, none⟩), .pointer (some ⟨cl, 0, none⟩)] A C q n hn hC hC' w2 (Lib.hid (HA.out.keep HB2.out)) (fun k => k = cl) (fun k hk => by have hk : k = cl := hk; omega)
    (fun g => RdFA q cl (g + 1)) (RdFA q cl w2.heap.size) (fun g b v2 v3 hg h hk => h.keep hk (by omega) (Nat.lt_succ_self _) (by omega))
    (fun g v1 hg hr hb => listFnF_any g bf cl q (by rw [← hn.out]; exact hn4) v1 (Lib.hid hr) (Lib.hid ((Kept.of_below (S := fun _ => False) hb).heap hrf2 fun e => e)) (Lib.hid ((Kept.of_below (S := fun _ => False) hb).heap hrow2 fun e => e)) (by omega) (by omega))
    (fun _ _ => by first | rfl | kernel_rfl)
  have HT := Lib.hid ht
  have HR2 := Lib.hid hrow2
  clear ht hbf hw1 hrow1 hb1 hcl hw2 hrow2 hb2 hrf2 hbf1
  go_enter Tryd.func53, Tryd.ntmps53
  go_upto_region 2 with fail
  have e1 : w.heap.size = bf := HBF.out.symm
  have e2 : w.heap.size + 1 = cl := HCL.out.symm
  have hx : ∀ (w3 : World), Kept (fun k => k = cl) w2 w3 → Below w.heap.size w w3 := fun w3 hk => HB2.out.trans (hk.below (B := w.heap.size) (by omega) fun k hk => by have hk : k = cl := hk; omega)
  have HX := Lib.hid hx
  clear hx
  rw [HW.out, e2, e1]
  clear e1 e2
  rcases ho : rFL q with _ | us
  · have HO := Lib.hid ho
    clear ho
    go_wp2_with (go_at_call 10; (with_reducible refine (HT.out).mono ?_); rintro e w3 ⟨b, rfl, hr, hk⟩; obtain rfl := rdfa_no HO.out hr; have HB3 := Lib.hid (HX.out w3 hk); clear hr hk)
    go_ret2
    rw [HO.out]
    exact ⟨rfl, HB3.out⟩
  · have HO := Lib.hid ho
    clear ho
    go_wp2_with (go_at_call 10; (with_reducible refine (HT.out).mono ?_); rintro e w3 ⟨b, rfl, hr, hk⟩; obtain rfl := rdfa_yes HO.out hr; have HB3 := Lib.hid (HX.out w3 hk); obtain ⟨L, n9, us9, e9, h8, hrow9, hrf9, hl9⟩ := hr; rw [HO.out] at e9; injection e9 with e9; subst e9; have HN9 := Lib.hid h8; have HRF := Lib.hid hrf9; have c9c : w3.cell? ⟨cl, 0, none⟩ = some (.slice (some ⟨L, 0, none⟩) n9 n9) := (by rw [cell_of_row _ _ _ _ _ _ hrow9]; rfl); clear hk hrow9 hrf9 h8 hl9)
    go_ret2
    rw [HO.out]
    exact ⟨⟨L, n9, rfl, HN9.out, HRF.out⟩, HB3.out⟩
set_option maxHeartbeats 2000000 in
theorem readRealsC_any (A : Option Addr) (C : Nat) (q : List Nat) (n : Nat) (hn : Hid (n = q.length)) (hn4 : n ≤ 1099511627776) (hC : n ≤ C) (hC' : C ≤ maxLen) (w : World) (HA : Hid (ByAt w A q)) :
    Calls Tryd.prog 33 #[.slice A n C] w (RFEnds (rFL q) w) := by
  have HT := Lib.hid (readListF_any A C q n hn hn4 hC hC' w HA)
  rcases ho : rFL q with _ | l
  · have HO := Lib.hid ho
    rw [ho] at HT
    clear ho
    go_enter Tryd.func33, Tryd.ntmps33
    go_wp2_with (go_at_call 53; (with_reducible refine (HT.out).mono ?_); rintro e w3 ⟨rfl, hb⟩; have HB := Lib.hid hb; clear hb)
    go_ret2
    exact ⟨rfl, HB.out⟩
  · have HO := Lib.hid ho
    rw [ho] at HT
    clear ho
    go_enter Tryd.func33, Tryd.ntmps33
    go_wp2_with (go_at_call 53; (with_reducible refine (HT.out).mono ?_); rintro e w3 ⟨⟨L, n9, rfl, h8, ho⟩, hb⟩; have HB := Lib.hid hb; have HOW := Lib.hid ho; have HN := Lib.hid h8; clear hb ho h8)
    go_ret2
    exact ⟨⟨L, n9, rfl, HN.out, HOW.out⟩, HB.out⟩
end Go.Proofs.YtpobfgokikfmbaaDoor

set_option linter.unusedSimpArgs false
set_option linter.unusedVariables false
set_option maxRecDepth 8000
namespace Go.Proofs.YtpobfgokikfmbaaDoor
open Go.RowKit Go.WideShapes Col
theorem FlAt.wf {w : World} {a : Option Addr} {l : List Nat} (h : FlAt w a l) : ∀ x ∈ l, x < 18446744073709551616 := fun x hx => by
  obtain ⟨k, hk⟩ := List.getElem?_of_mem hx
  exact (h k x hk).1
theorem FlAt.nil (w : World) (a : Option Addr) : FlAt w a [] := fun k x hx => by simp at hx
theorem FlAt.at' {w w' : World} {a : Option Addr} {l : List Nat} (h : Hid (FlAt w a l)) (hb : Below w.heap.size w w') : Hid (FlAt w' a l) := h.out.keep hb
theorem FlAt.spot {w : World} {a : Option Addr} {l : List Nat} (h : FlAt w a l) (h0 : 0 < l.length) : ∃ g off, a = some ⟨g, off, none⟩ ∧ g < w.heap.size ∧ ∀ (k : Nat) (x : Nat), l[k]? = some x → w.cell? ⟨g, off + k, none⟩ = some (.float .f64 x) := by
  obtain ⟨-, g, off, rfl, hg, -⟩ := h 0 l[0] (List.getElem?_eq_getElem h0)
  refine ⟨g, off, rfl, hg, fun k x hx => ?_⟩
  obtain ⟨-, g', off', h2, -, hc⟩ := h k x hx
  cases h2
  exact hc
theorem fvs_length (l : List Nat) : (fvs l).length = l.length := List.length_map ..
theorem fvs_append (l m : List Nat) : fvs (l ++ m) = fvs l ++ fvs m := List.map_append ..
theorem fvs_one (l : List Nat) : ∀ u ∈ fvs l, u.oneCell' = true := fun u hu => by
  obtain ⟨x, -, rfl⟩ := List.mem_map.1 hu; rfl
theorem FlAt.of_row {w : World} {g : Nat} {cs : Array Value} {t : TypeId} {fr : Nat × Nat} (l : List Nat) (hl : ∀ x ∈ l, x < 18446744073709551616) (hrow : w.heap[g]? = some (.cells cs t fr)) (hcs : (fvs l).IsPrefix cs.toList) : FlAt w (some ⟨g, 0, none⟩) l := fun k x hx => by
  refine ⟨hl x (List.mem_of_getElem? hx), g, 0, rfl, (Array.getElem?_eq_some_iff.1 hrow).1, ?_⟩
  rw [cell_of_row w g (0 + k) cs t fr hrow, Nat.zero_add, ← Array.getElem?_toList]
  obtain ⟨r, hr⟩ := hcs
  have hk : k < (fvs l).length := by rw [fvs_length]; exact (List.getElem?_eq_some_iff.1 hx).1
  rw [← hr, List.getElem?_append_left hk]
  unfold fvs; rw [List.getElem?_map, hx]; rfl
theorem infoF64e : (Tryd.prog.info? 34).map (fun i => (i.zero, i.size, i.bytes)) = some (some (.float .f64 0), 1, 8) := by kernel_rfl
/-- A slice of whole numbers that the call owns: its block lies from B on. -/
def OwnF (w : World) (B : Nat) (A : Option Addr) (n cap : Nat) (l : List Nat) : Prop := w.ownsRow B 34 1 (.slice A n cap) n (fvs l) ∧ ∀ x ∈ l, x < 18446744073709551616
theorem OwnF.len {w : World} {B n cap : Nat} {A : Option Addr} {l : List Nat} (h : OwnF w B A n cap l) : n = l.length := by have := h.1.1; rw [fvs_length] at this; omega
theorem OwnF.caps {w : World} {B n cap : Nat} {A : Option Addr} {l : List Nat} (h : OwnF w B A n cap l) : n ≤ cap ∧ cap ≤ maxLen := by
  rcases h.1.2 with ⟨h1, h2⟩ | ⟨g, cap', cur, h1, -, -, h2, h3, -⟩
  · cases h1; exact ⟨Nat.le_refl _, Nat.zero_le _⟩
  · cases h1; exact ⟨h2, h3⟩
theorem OwnF.isAt {w : World} {B n cap : Nat} {A : Option Addr} {l : List Nat} (h : OwnF w B A n cap l) : FlAt w A l := by
  rcases h.1.2 with ⟨h1, h2⟩ | ⟨g, cap', cur, h1, hb, hrow, -, -, hs, ht⟩
  · have := h.len
    have hl : l = [] := List.eq_nil_of_length_eq_zero (by omega)
    subst hl; exact FlAt.nil _ _
  · cases h1
    exact FlAt.of_row l h.2 hrow ⟨cur.toList.drop (n * 1), by rw [← ht, List.take_append_drop]⟩
theorem OwnF.nil (w : World) (B : Nat) : OwnF w B none 0 0 [] := ⟨w.ownsRow_nil B _ 1, fun x hx => by cases hx⟩
theorem OwnF.keep {w w' : World} {B n cap : Nat} {A : Option Addr} {l : List Nat} (h : OwnF w B A n cap l) (hb : Below w.heap.size w w') : OwnF w' B A n cap l :=
  ⟨h.1.kept (row := none) ⟨hb.os, hb.tape, hb.output, hb.size, fun k hk _ => hb.block k hk⟩ (by rcases A with _ | a <;> simp [Value.ownBlock]), h.2⟩
theorem OwnF.base {w : World} {B n cap : Nat} {A : Option Addr} {l : List Nat} (h : OwnF w B A n cap l) : ∀ k, A.map (·.block) = some k → B ≤ k := fun k hk => by
  rcases h.1.2 with ⟨h1, h2⟩ | ⟨g, cap', cur, h1, hb, _⟩
  · cases h1; cases hk
  · cases h1; simp at hk; omega
theorem fl_at {w : World} {a : Addr} {l : List Nat} (h : FlAt w (some a) l) (j : Nat) (u : Value) (hu : (fvs l)[j]? = some u) : w.cell? (a.add j) = some u := by
  unfold fvs at hu
  rw [List.getElem?_map] at hu
  rcases hx : l[j]? with _ | x
  · rw [hx] at hu; cases hu
  · rw [hx] at hu
    obtain ⟨-, g, off, e, -, hc⟩ := h j x hx
    cases e
    rw [addr_add, hc]; exact hu
/-- append of whole numbers that are some, the source nil, empty or not. -/
theorem run_append_fl (w : World) (B : Nat) (A : Option Addr) (n cap : Nat) (l : List Nat) (hown : OwnF w B A n cap l) (a : Addr) (m c : Nat) (l2 : List Nat) (hm : m = l2.length) (h2 : FlAt w (some a) l2)
    (hbytes : (n + m) * 8 ≤ 140737488355328) (hbase : B ≤ w.heap.size) (ty : TypeId) :
    ∃ A' cap' w', (Builtin.append_ #[55, 55] ty #[.slice A n cap, .slice (some a) m c]).run Tryd.prog w = .ok (.slice A' (n + m) cap') w' ∧ OwnF w' B A' (n + m) cap' (l ++ l2) ∧ w.grownBy w' (A.map (·.block)) := by
  obtain ⟨i0, hi, hz0, hz1, hz2⟩ := info_parts infoF64e
  have hlt : ∀ x ∈ l ++ l2, x < 18446744073709551616 := fun x hx => by
    rcases List.mem_append.1 hx with h | h
    · exact hown.2 x h
    · exact h2.wf x h
  obtain ⟨v', w', hr, h3, h4, h5, h6⟩ := run_append_own_at (P := Tryd.prog) w B 55 ty 34 i0 (.float .f64 0) 1 8 Tryd.underlying55 hi hz0 hz1 hz2 rfl (by decide) _ n (fvs l) hown.1 a m c (fvs l2) (by rw [fvs_length, hm, Nat.mul_one]) (fl_at h2) (fvs_one l2) (by unfold maxLen; omega) (by omega) hbase
  rw [← fvs_append] at h3
  rcases h3.2 with ⟨rfl, h0⟩ | ⟨g, cap', cur, rfl, hb, hrest⟩
  · have hn0 : n = 0 := by omega
    have hm0 : m = 0 := by omega
    subst hn0; subst hm0
    exact ⟨none, 0, w', hr, ⟨h3, hlt⟩, by rcases A with _ | _ <;> exact h4⟩
  · exact ⟨_, _, w', hr, ⟨h3, hlt⟩, by rcases A with _ | _ <;> exact h4⟩
theorem wpList_append_fl {w : World} {ops : Array Oper} {rest : List Oper} {o : Oper} {a : Act} {Q : Exit → Act → World → Prop} (hgd : o.guard = none) (s x : Operand)
    (ho : o.op = .call { callee := .builtin .append, args := #[s, x], argTypes := #[55, 55] })
    (B : Nat) (A : Option Addr) (n cap : Nat) (l : List Nat) (hs : a.eval s = .slice A n cap) (hown : OwnF w B A n cap l) (b : Addr) (m c : Nat) (l2 : List Nat) (hx : a.eval x = .slice (some b) m c) (hm : m = l2.length) (h2 : FlAt w (some b) l2)
    (hbytes : (n + m) * 8 ≤ 140737488355328) (hbase : B ≤ w.heap.size)
    (h : ∀ A' cap' w', OwnF w' B A' (n + m) cap' (l ++ l2) → w.grownBy w' (A.map (·.block)) → wpList Tryd.prog ops Q rest (a.put o.dst (.slice A' (n + m) cap')) w') : wpList Tryd.prog ops Q (o :: rest) a w := by
  refine wpList_plain hgd fun K hK => ?_
  obtain ⟨A', cap', w', hr, h3, h4⟩ := run_append_fl w B A n cap l hown b m c l2 hm h2 hbytes hbase o.type
  unfold Oper.wp execOp
  simp only [ho, resolve, invoke, builtin, Sem.run_bind, Sem.run_pure, Result.andThen_ok, List.map_toArray, List.map_cons, List.map_nil, hs, hx, hr]
  exact hK _ _ (h A' cap' w' h3 h4)
theorem fl_one (w : World) (x : Nat) (hx : x < 18446744073709551616) : FlAt (w.alloc (.cells #[.float .f64 x] 34)) (some ⟨w.heap.size, 0, none⟩) [x] :=
  FlAt.of_row _ (fun y hy => by simp at hy; subst hy; exact hx) (heap_alloc_new' w _) ⟨[], rfl⟩
end Go.Proofs.YtpobfgokikfmbaaDoor

set_option linter.unusedSimpArgs false
set_option linter.unusedVariables false
set_option maxRecDepth 8000
namespace Go.Proofs.YtpobfgokikfmbaaDoor
open Go.RowKit Go.WideShapes Col
/-- How the document's ReadReals ends. -/
def RFRef (w : World) (o : Option (List Nat)) (e : Ending) (w' : World) : Prop := match o with
  | some us => (∃ A' n' cap', e = .returned (.tuple #[.slice A' n' cap', .bool true]) ∧ OwnF w' w.heap.size A' n' cap' us) ∧ Below w.heap.size w w'
  | none => e = .returned (.tuple #[.slice none 0 0, .bool false]) ∧ Below w.heap.size w w'
theorem riL_inv {p : List Nat} {xs : List Int} (h : riL p = some xs) : rI p = some (xs, []) := by
  unfold riL at h
  rcases hr : rI p with _ | ⟨ys, _ | ⟨y, r⟩⟩
  · rw [hr] at h; cases h
  · rw [hr] at h; injection h with h; rw [h]
  · rw [hr] at h; cases h
theorem rFL_ok {p : List Nat} {xs : List Int} (h : riL p = some xs) (hb : okF xs = true) : rFL p = some (xs.map u64N) := rFL_some (rF_yes (riL_inv h) hb)
theorem rFL_bad {p : List Nat} {xs : List Int} (h : riL p = some xs) (hb : okF xs = false) : rFL p = none := rFL_none (rF_bad (riL_inv h) hb)
theorem rFL_no {p : List Nat} (h : riL p = none) : rFL p = none := by
  rcases hr : rI p with _ | ⟨ys, _ | ⟨y, r⟩⟩
  · exact rFL_none (rF_no hr)
  · rw [riL_some hr] at h; cases h
  · by_cases hb : okF ys = true
    · exact rFL_left (rF_yes hr hb) (by simp)
    · exact rFL_none (rF_bad hr (by simpa using hb))
theorem OwnF.more {w : World} {B n cap : Nat} {A : Option Addr} {l : List Nat} {B' : Nat} (h : OwnF w B A n cap l) (hB : B' ≤ B) : OwnF w B' A n cap l := by
  refine ⟨⟨h.1.1, ?_⟩, h.2⟩
  rcases h.1.2 with h1 | ⟨g, cap', cur, h1, hb, h2⟩
  · exact .inl h1
  · exact .inr ⟨g, cap', cur, h1, Nat.le_trans hB hb, h2⟩
set_option maxHeartbeats 4000000 in
theorem refReadReals_any (A : Option Addr) (C : Nat) (p : List Nat) (n : Nat) (w : World) (HI : Hid (Calls Tryd.prog 15 #[.slice A n C] w (RREnds w (riL p)))) :
    Calls Tryd.prog 17 #[.slice A n C] w (RFRef w (rFL p)) := by
  rcases ho : riL p with _ | xs
  · have HN := Lib.hid (rFL_no ho)
    rw [ho] at HI
    clear ho
    go_enter Tryd.func17, Tryd.ntmps17
    go_wp2_with (go_at_call 15; (with_reducible refine (HI.out).mono ?_); rintro e w2 ⟨rfl, hb⟩; have HB := Lib.hid hb; clear hb)
    go_loopw [6, 7] (fun u v wr => u = .slice none 0 0 ∧ v = .int .i64 0 ∧ Below w.heap.size w wr) (fun _ v _ => 0)
    case atStart => exact ⟨rfl, rfl, HB.out⟩
    case round =>
      obtain ⟨rfl, rfl, hb⟩ := hrel
      have HB3 := Lib.hid hb
      go_wp2
      go_ret2
      rw [HN.out]
      exact ⟨rfl, HB3.out⟩
  · have HO := Lib.hid ho
    rw [ho] at HI
    clear ho
    go_enter Tryd.func17, Tryd.ntmps17
    go_wp2_with (go_at_call 15; (with_reducible refine (HI.out).mono ?_); rintro e w2 ⟨⟨A', n', cap', rfl, h1⟩, h2⟩; have HOW := Lib.hid h1.isAt; have HLN := Lib.hid h1.len; have HB := Lib.hid h2; have hnm := h1.caps; clear h1 h2)
    go_loopw [6, 7] (fun u v wr => ∃ (k : Nat) (A2 : Option Addr) (c2 : Nat), k ≤ n' ∧ v = .int .i64 (k : Int) ∧ u = .slice A2 k c2 ∧ OwnF wr w2.heap.size A2 k c2 ((xs.map u64N).take k) ∧ Below w2.heap.size w2 wr ∧ okF (xs.take k) = true) (fun _ v _ => n' - (intOf v).toNat)
    case atStart => exact ⟨0, none, 0, Nat.zero_le _, rfl, rfl, OwnF.nil _ _, Below.refl _ _, by rw [List.take_zero]; rfl⟩
    case round =>
      obtain ⟨k, A2, c2, hk, rfl, rfl, hof, hb, hok⟩ := hrel
      have HOF := Lib.hid hof; have HB2 := Lib.hid hb; have HOKK := Lib.hid hok
      have HB3 := Lib.hid (below_to HB.out hb)
      clear hof hb hok
      by_cases hlt : k < n'
      · obtain ⟨x, hx⟩ : ∃ x, xs[k]? = some x := ⟨xs[k]'(by have := HLN.out; omega), List.getElem?_eq_getElem _⟩
        obtain ⟨-, ga, oa, rfl, hga, hca⟩ := (HOW.out.keep HB2.out) k x hx
        have HGA := Lib.hid hga; have HCA := Lib.hid hca
        obtain ⟨hu1, hu2⟩ := u64N_eq x
        have hki : (k : Int) < (n' : Int) := by omega
        have HSN := Lib.hid (un_snoc xs k x hx)
        have hbad : Hid (¬ Fl.canon (u64N x) = u64N x → rFL p = none) := Lib.hid fun h => rFL_bad HO.out (okF_no hx h)
        have hgood : Hid (Fl.canon (u64N x) = u64N x → okF (xs.take (k + 1)) = true) := Lib.hid fun h => okF_take HOKK.out hx h
        have hcl := Fl.canon_lt (u64N x) hu2
        have hcc := Fl.canon_canon (u64N x)
        obtain ⟨u, hu⟩ : ∃ u, u = u64N x := ⟨_, rfl⟩
        rw [← hu] at hu1 hu2 hbad hgood HSN hcl hcc
        have HOF1 := Lib.hid fun w => refOf_any u hu2 w
        obtain ⟨v, hv⟩ : ∃ v, v = Fl.canon u := ⟨_, rfl⟩
        rw [← hv] at hbad hgood HOF1 hcl hcc
        have HBI : Hid (∀ w, Calls Tryd.prog 41 #[.float .f64 v] w fun e w' => e = .returned (.int .u64 (v : Int)) ∧ w = w') := Lib.hid fun w => by have := refBits_any v hcl w; rw [hcc] at this; exact this
        clear hx hu hv hcc hga
        go_upto_region 7 with (go_at_call 40; refine (HOF1.out _).mono ?_; rintro e w9 ⟨rfl, rfl⟩)
        clear hca
        refine wp_region_held_drew (S := fun w => Below wr.heap.size wr w) (by kernel_rfl) ((Below.refl _ _).drew) (fun hHeld => ?_)
        refine wpAnyH_take (i := 0) (v := .float .f64 v) rfl (by kernel_rfl) (by kernel_rfl) (by kernel_rfl) (fun _ _ _ h => h) (Or.inl ⟨by rfl, fun _ _ => rfl⟩) hHeld ?_
        try dsimp only
        try simp only [Act.put, List.getElem_toArray, List.getElem_cons_zero, List.getElem_cons_succ, List.setIfInBounds_toArray, List.set_cons_zero, List.set_cons_succ]
        refine wpAnyH_take (i := 2) (v := .slice (some ⟨ga, oa, none⟩) n' cap') rfl (by kernel_rfl) (by kernel_rfl) (by kernel_rfl) (fun _ _ _ h => h) (Or.inl ⟨by rfl, fun _ _ => rfl⟩) hHeld ?_
        try dsimp only
        try simp only [Act.put, List.getElem_toArray, List.getElem_cons_zero, List.getElem_cons_succ, List.setIfInBounds_toArray, List.set_cons_zero, List.set_cons_succ]
        refine wpAnyH_take (i := 3) (v := .int .i64 (k : Int)) rfl (by kernel_rfl) (by kernel_rfl) (by kernel_rfl) (fun _ _ _ h => h) (Or.inl ⟨by rfl, fun _ _ => rfl⟩) hHeld ?_
        try dsimp only
        try simp only [Act.put, List.getElem_toArray, List.getElem_cons_zero, List.getElem_cons_succ, List.setIfInBounds_toArray, List.set_cons_zero, List.set_cons_succ]
        refine wpAnyH_take (i := 4) (v := .pointer (some ⟨ga, oa + k, none⟩)) rfl (by kernel_rfl) (by kernel_rfl) (by kernel_rfl) (fun _ _ _ h => h) (Or.inl ⟨by rfl, fun w _ => by first | (go_simp; done) | (go_simp; intro h; exfalso; omega)⟩) hHeld ?_
        try dsimp only
        try simp only [Act.put, List.getElem_toArray, List.getElem_cons_zero, List.getElem_cons_succ, List.setIfInBounds_toArray, List.set_cons_zero, List.set_cons_succ]
        refine wpAnyH_take (i := 5) (v := .int .i64 x) rfl (by kernel_rfl) (by kernel_rfl) (by kernel_rfl) (fun _ _ _ h => h) (Or.inl ⟨by rfl, fun w hw => by have hc : w.cell? ⟨ga, oa + k, none⟩ = some (.int .i64 x) := (hw.cell (p := ⟨ga, oa + k, none⟩) HGA.out).trans HCA.out; go_simp⟩) hHeld ?_
        try dsimp only
        try simp only [Act.put, List.getElem_toArray, List.getElem_cons_zero, List.getElem_cons_succ, List.setIfInBounds_toArray, List.set_cons_zero, List.set_cons_succ]
        refine wpAnyH_take (i := 6) (v := .int .u64 (u : Int)) rfl (by kernel_rfl) (by kernel_rfl) (by kernel_rfl) (fun _ _ _ h => h) (Or.inl ⟨by rfl, fun w _ => by go_simp⟩) hHeld ?_
        try dsimp only
        try simp only [Act.put, List.getElem_toArray, List.getElem_cons_zero, List.getElem_cons_succ, List.setIfInBounds_toArray, List.set_cons_zero, List.set_cons_succ]
        refine wpAnyH_ready (rs := [1]) (by kernel_rfl) (by simp) (AllReadyH.cons rfl (fun K hK => ?_) AllReadyH.nil)
        go_simp
        refine (HBI.out _).mono ?_
        rintro e w6 ⟨rfl, rfl⟩
        refine hK.out _ _ hHeld (fun hHeld => ?_)
        clear hK K
        try dsimp only
        try simp only [Act.put, List.getElem_toArray, List.getElem_cons_zero, List.getElem_cons_succ, List.setIfInBounds_toArray, List.set_cons_zero, List.set_cons_succ]
        refine wpAnyH_take (i := 7) (v := .bool ((v : Int) != (u : Int))) rfl (by kernel_rfl) (by kernel_rfl) (by kernel_rfl) (fun _ _ _ h => h) (Or.inl ⟨by rfl, fun w _ => by go_simp⟩) hHeld ?_
        try dsimp only
        try simp only [Act.put, List.getElem_toArray, List.getElem_cons_zero, List.getElem_cons_succ, List.setIfInBounds_toArray, List.set_cons_zero, List.set_cons_succ]
        refine wpAnyH_done (by kernel_rfl) ?_ _
        obtain ⟨w6, hw6⟩ : ∃ w6, w6 = wr.drew := ⟨_, rfl⟩
        rw [← hw6] at hHeld ⊢
        clear hw6
        have HB9 := Lib.hid (below_to HB2.out hHeld)
        have HB10 := Lib.hid (below_to HB3.out hHeld)
        have HOF9 := Lib.hid (HOF.out.keep hHeld)
        clear hHeld
        by_cases hvu : v = u
        · subst hvu
          have HAX := Lib.hid (fl_one w6 v hcl)
          have HBB := Lib.hid ((Below.refl w6.heap.size w6).alloc (Nat.le_refl _) (.cells #[.float .f64 v] 34))
          have HOX := Lib.hid (HOF9.out.keep HBB.out)
          have hb2 := HOF9.out.base
          have hnk : n' ≤ 4096 := by
            have h1 := rI_len (riL_inv HO.out); have h2 := HLN.out; omega
          have hbs : w2.heap.size ≤ (w6.alloc (.cells #[.float .f64 v] 34)).heap.size := Nat.le_trans HB9.out.size HBB.out.size
          have hvv : ((v : Int) != (v : Int)) = false := by simp
          go_wp2_with (refine wpList_append_fl rfl (.tmp 34) (.tmp 36) rfl w2.heap.size A2 k c2 _ rfl HOX.out ⟨w6.heap.size, 0, none⟩ 1 1 [v] rfl rfl HAX.out (by omega) hbs ?_; intro A3 c3 w7 ho hg; have HO7 := Lib.hid ho; have HB7 : Hid (Below w2.heap.size w2 w7) := Lib.hid ((below_to HB9.out HBB.out).grown hg hbs hb2); clear ho hg)
          go_roundw
          case rel => exact ⟨k + 1, A3, c3, by omega, by go_num, rfl, by rw [HSN.out]; exact HO7.out, HB7.out, hgood.out rfl⟩
          case measure => simp [intOf]; omega
        · have hvv : ((v : Int) != (u : Int)) = true := by rw [bne_iff_ne]; omega
          have HN := Lib.hid (hbad.out hvu)
          go_wp2
          go_ret2
          rw [HN.out]
          exact ⟨rfl, HB10.out⟩
      · obtain rfl : k = n' := by omega
        have HF := HOF.out.more (B' := w.heap.size) HB.out.size
        rw [List.take_of_length_le (by rw [List.length_map]; have := HLN.out; omega)] at HF
        have HF2 := Lib.hid HF
        have HY := Lib.hid (rFL_ok HO.out (by have := HOKK.out; rwa [List.take_of_length_le (by have := HLN.out; omega)] at this))
        clear HF
        go_wp2
        go_ret2
        rw [HY.out]
        exact ⟨⟨A2, k, c2, rfl, HF2.out⟩, HB3.out⟩
end Go.Proofs.YtpobfgokikfmbaaDoor

set_option linter.unusedSimpArgs false
set_option linter.unusedVariables false
set_option maxRecDepth 8000
namespace Go.Proofs.YtpobfgokikfmbaaDoor
open Go.RowKit Go.WideShapes Col
theorem riL_all (q : List Nat) : riL q = allOf (rI q) := by
  unfold riL allOf
  rcases rI q with _ | ⟨l, _ | ⟨x, r⟩⟩ <;> rfl
theorem refIntsRd_any (m C : Nat) (A : Option Addr) (p q : List Nat) (w : World) (H : Hid (RRA w m A C p (some q))) :
    Calls Tryd.prog 39 #[.pointer (some ⟨m, 0, none⟩)] w (RIEnds w m C A p (riL q)) := by
  rw [riL_all]
  rcases q with _ | ⟨way, q⟩
  · exact rintsNo_any m C A p (some []) none none 0 0 (Lib.hid rfl) (Lib.hid rfl) (by omega) (.inl rfl) w H
  · rcases hu : uP 4096 q with _ | ⟨n, r⟩
    · rw [rI_no hu]
      exact rintsNo_any m C A p (some (way :: q)) (some q) none way 0 (Lib.hid rfl) (Lib.hid (uintS_none hu)) (by omega) (.inl rfl) w H
    · have hn : n ≤ 4096 := (uP_some hu).2
      rw [rI_yes hu]
      unfold rW
      by_cases h0 : way = 0
      · subst h0; rw [if_pos rfl]; exact rints0_any m C A p q r n (Lib.hid hu) hn w H
      · rw [if_neg h0]
        by_cases h1 : way = 1
        · subst h1; rw [if_pos rfl]; exact rints1_any m C A p q r n (Lib.hid hu) hn w H
        · rw [if_neg h1]
          by_cases h2 : way = 2
          · subst h2; rw [if_pos rfl]; exact rints2_any m C A p q r n (Lib.hid hu) hn w H
          · rw [if_neg h2]
            by_cases h3 : way = 3
            · subst h3; rw [if_pos rfl]; exact rints3_any m C A p q r n (Lib.hid hu) hn w H
            · rw [if_neg h3]
              exact rintsNo_any m C A p (some (way :: q)) (some q) (some r) way n (Lib.hid rfl) (Lib.hid (uintS_some hu)) hn (.inr (by omega)) w H
theorem refReadInts (A : Option Addr) (C : Nat) (p : List Nat) (n : Nat) (hn : Hid (n = p.length)) (hn4 : n ≤ 1000000) (hC : n ≤ C) (hC' : C ≤ maxLen) (w : World) (HA : Hid (ByAt w A p)) :
    Calls Tryd.prog 15 #[.slice A n C] w (RREnds w (riL p)) :=
  refReadInts_any A C p n hn hn4 hC hC' w HA (Lib.hid fun m w h => refIntsRd_any m C A p p w h)
theorem refReadReals (A : Option Addr) (C : Nat) (p : List Nat) (n : Nat) (hn : Hid (n = p.length)) (hn4 : n ≤ 1000000) (hC : n ≤ C) (hC' : C ≤ maxLen) (w : World) (HA : Hid (ByAt w A p)) :
    Calls Tryd.prog 17 #[.slice A n C] w (RFRef w (rFL p)) :=
  refReadReals_any A C p n w (Lib.hid (refReadInts A C p n hn hn4 hC hC' w HA))
end Go.Proofs.YtpobfgokikfmbaaDoor

set_option linter.unusedSimpArgs false
set_option linter.unusedVariables false
set_option maxRecDepth 8000
namespace Go.Proofs.YtpobfgokikfmbaaDoor
open Go.RowKit Go.WideShapes Col
def WfT (x : List Nat) : Prop := ∀ c ∈ x, c < 256
/-- A slice value that holds some whole numbers, in a world. -/
def TxAt (w : World) (a : Option Addr) (l : List (List Nat)) : Prop := ∀ (k : Nat) (x : List Nat), l[k]? = some x → WfT x ∧ ∃ g off, a = some ⟨g, off, none⟩ ∧ g < w.heap.size ∧ w.cell? ⟨g, off + k, none⟩ = some (.string (strB x))
theorem TxAt.keep {w w' : World} {a : Option Addr} {l : List (List Nat)} (h : TxAt w a l) (hb : Below w.heap.size w w') : TxAt w' a l := fun k x hx => by
  obtain ⟨h1, g, off, h2, h3, h4⟩ := h k x hx
  exact ⟨h1, g, off, h2, Nat.lt_of_lt_of_le h3 hb.size, (hb.cell (p := ⟨g, off + k, none⟩) h3).trans h4⟩
theorem TxAt.wf {w : World} {a : Option Addr} {l : List (List Nat)} (h : TxAt w a l) : ∀ x ∈ l, WfT x := fun x hx => by
  obtain ⟨k, hk⟩ := List.getElem?_of_mem hx
  exact (h k x hk).1
theorem TxAt.nil (w : World) (a : Option Addr) : TxAt w a [] := fun k x hx => by simp at hx
theorem TxAt.at' {w w' : World} {a : Option Addr} {l : List (List Nat)} (h : Hid (TxAt w a l)) (hb : Below w.heap.size w w') : Hid (TxAt w' a l) := h.out.keep hb
theorem TxAt.spot {w : World} {a : Option Addr} {l : List (List Nat)} (h : TxAt w a l) (h0 : 0 < l.length) : ∃ g off, a = some ⟨g, off, none⟩ ∧ g < w.heap.size ∧ ∀ (k : Nat) (x : List Nat), l[k]? = some x → w.cell? ⟨g, off + k, none⟩ = some (.string (strB x)) := by
  obtain ⟨-, g, off, rfl, hg, -⟩ := h 0 l[0] (List.getElem?_eq_getElem h0)
  refine ⟨g, off, rfl, hg, fun k x hx => ?_⟩
  obtain ⟨-, g', off', h2, -, hc⟩ := h k x hx
  cases h2
  exact hc
def tv (x : List Nat) : Value := .string (strB x)
def tvs (l : List (List Nat)) : List Value := l.map tv
theorem tvs_length (l : List (List Nat)) : (tvs l).length = l.length := List.length_map ..
theorem tvs_append (l m : List (List Nat)) : tvs (l ++ m) = tvs l ++ tvs m := List.map_append ..
theorem tvs_one (l : List (List Nat)) : ∀ u ∈ tvs l, u.oneCell' = true := fun u hu => by
  obtain ⟨x, -, rfl⟩ := List.mem_map.1 hu; rfl
theorem TxAt.of_row {w : World} {g : Nat} {cs : Array Value} {t : TypeId} {fr : Nat × Nat} (l : List (List Nat)) (hl : ∀ x ∈ l, WfT x) (hrow : w.heap[g]? = some (.cells cs t fr)) (hcs : (tvs l).IsPrefix cs.toList) : TxAt w (some ⟨g, 0, none⟩) l := fun k x hx => by
  refine ⟨hl x (List.mem_of_getElem? hx), g, 0, rfl, (Array.getElem?_eq_some_iff.1 hrow).1, ?_⟩
  rw [cell_of_row w g (0 + k) cs t fr hrow, Nat.zero_add, ← Array.getElem?_toList]
  obtain ⟨r, hr⟩ := hcs
  have hk : k < (tvs l).length := by rw [tvs_length]; exact (List.getElem?_eq_some_iff.1 hx).1
  rw [← hr, List.getElem?_append_left hk]
  unfold tvs; rw [List.getElem?_map, hx]; rfl
theorem infoStr : (Tryd.prog.info? 9).map (fun i => (i.zero, i.size, i.bytes)) = some (some (.string { data := #[] }), 1, 16) := by kernel_rfl
/-- A slice of whole numbers that the call owns: its block lies from B on. -/
def OwnX (w : World) (B : Nat) (A : Option Addr) (n cap : Nat) (l : List (List Nat)) : Prop := w.ownsRow B 9 1 (.slice A n cap) n (tvs l) ∧ ∀ x ∈ l, WfT x
theorem OwnX.len {w : World} {B n cap : Nat} {A : Option Addr} {l : List (List Nat)} (h : OwnX w B A n cap l) : n = l.length := by have := h.1.1; rw [tvs_length] at this; omega
theorem OwnX.caps {w : World} {B n cap : Nat} {A : Option Addr} {l : List (List Nat)} (h : OwnX w B A n cap l) : n ≤ cap ∧ cap ≤ maxLen := by
  rcases h.1.2 with ⟨h1, h2⟩ | ⟨g, cap', cur, h1, -, -, h2, h3, -⟩
  · cases h1; exact ⟨Nat.le_refl _, Nat.zero_le _⟩
  · cases h1; exact ⟨h2, h3⟩
theorem OwnX.isAt {w : World} {B n cap : Nat} {A : Option Addr} {l : List (List Nat)} (h : OwnX w B A n cap l) : TxAt w A l := by
  rcases h.1.2 with ⟨h1, h2⟩ | ⟨g, cap', cur, h1, hb, hrow, -, -, hs, ht⟩
  · have := h.len
    have hl : l = [] := List.eq_nil_of_length_eq_zero (by omega)
    subst hl; exact TxAt.nil _ _
  · cases h1
    exact TxAt.of_row l h.2 hrow ⟨cur.toList.drop (n * 1), by rw [← ht, List.take_append_drop]⟩
theorem OwnX.nil (w : World) (B : Nat) : OwnX w B none 0 0 [] := ⟨w.ownsRow_nil B _ 1, fun x hx => by cases hx⟩
theorem OwnX.keep {w w' : World} {B n cap : Nat} {A : Option Addr} {l : List (List Nat)} (h : OwnX w B A n cap l) (hb : Below w.heap.size w w') : OwnX w' B A n cap l :=
  ⟨h.1.kept (row := none) ⟨hb.os, hb.tape, hb.output, hb.size, fun k hk _ => hb.block k hk⟩ (by rcases A with _ | a <;> simp [Value.ownBlock]), h.2⟩
theorem OwnX.base {w : World} {B n cap : Nat} {A : Option Addr} {l : List (List Nat)} (h : OwnX w B A n cap l) : ∀ k, A.map (·.block) = some k → B ≤ k := fun k hk => by
  rcases h.1.2 with ⟨h1, h2⟩ | ⟨g, cap', cur, h1, hb, _⟩
  · cases h1; cases hk
  · cases h1; simp at hk; omega
theorem tx_at {w : World} {a : Addr} {l : List (List Nat)} (h : TxAt w (some a) l) (j : Nat) (u : Value) (hu : (tvs l)[j]? = some u) : w.cell? (a.add j) = some u := by
  unfold tvs at hu
  rw [List.getElem?_map] at hu
  rcases hx : l[j]? with _ | x
  · rw [hx] at hu; cases hu
  · rw [hx] at hu
    obtain ⟨-, g, off, e, -, hc⟩ := h j x hx
    cases e
    rw [addr_add, hc]; exact hu
/-- append of whole numbers that are some, the source nil, empty or not. -/
theorem run_append_tx (w : World) (B : Nat) (A : Option Addr) (n cap : Nat) (l : List (List Nat)) (hown : OwnX w B A n cap l) (a : Addr) (m c : Nat) (l2 : List (List Nat)) (hm : m = l2.length) (h2 : TxAt w (some a) l2)
    (hbytes : (n + m) * 16 ≤ 140737488355328) (hbase : B ≤ w.heap.size) (ty : TypeId) :
    ∃ A' cap' w', (Builtin.append_ #[48, 48] ty #[.slice A n cap, .slice (some a) m c]).run Tryd.prog w = .ok (.slice A' (n + m) cap') w' ∧ OwnX w' B A' (n + m) cap' (l ++ l2) ∧ w.grownBy w' (A.map (·.block)) := by
  obtain ⟨i0, hi, hz0, hz1, hz2⟩ := info_parts infoStr
  have hlt : ∀ x ∈ l ++ l2, WfT x := fun x hx => by
    rcases List.mem_append.1 hx with h | h
    · exact hown.2 x h
    · exact h2.wf x h
  obtain ⟨v', w', hr, h3, h4, h5, h6⟩ := run_append_own_at (P := Tryd.prog) w B 48 ty 9 i0 (.string { data := #[] }) 1 16 Tryd.underlying48 hi hz0 hz1 hz2 rfl (by decide) _ n (tvs l) hown.1 a m c (tvs l2) (by rw [tvs_length, hm, Nat.mul_one]) (tx_at h2) (tvs_one l2) (by unfold maxLen; omega) (by omega) hbase
  rw [← tvs_append] at h3
  rcases h3.2 with ⟨rfl, h0⟩ | ⟨g, cap', cur, rfl, hb, hrest⟩
  · have hn0 : n = 0 := by omega
    have hm0 : m = 0 := by omega
    subst hn0; subst hm0
    exact ⟨none, 0, w', hr, ⟨h3, hlt⟩, by rcases A with _ | _ <;> exact h4⟩
  · exact ⟨_, _, w', hr, ⟨h3, hlt⟩, by rcases A with _ | _ <;> exact h4⟩
theorem wpList_append_tx {w : World} {ops : Array Oper} {rest : List Oper} {o : Oper} {a : Act} {Q : Exit → Act → World → Prop} (hgd : o.guard = none) (s x : Operand)
    (ho : o.op = .call { callee := .builtin .append, args := #[s, x], argTypes := #[48, 48] })
    (B : Nat) (A : Option Addr) (n cap : Nat) (l : List (List Nat)) (hs : a.eval s = .slice A n cap) (hown : OwnX w B A n cap l) (b : Addr) (m c : Nat) (l2 : List (List Nat)) (hx : a.eval x = .slice (some b) m c) (hm : m = l2.length) (h2 : TxAt w (some b) l2)
    (hbytes : (n + m) * 16 ≤ 140737488355328) (hbase : B ≤ w.heap.size)
    (h : ∀ A' cap' w', OwnX w' B A' (n + m) cap' (l ++ l2) → w.grownBy w' (A.map (·.block)) → wpList Tryd.prog ops Q rest (a.put o.dst (.slice A' (n + m) cap')) w') : wpList Tryd.prog ops Q (o :: rest) a w := by
  refine wpList_plain hgd fun K hK => ?_
  obtain ⟨A', cap', w', hr, h3, h4⟩ := run_append_tx w B A n cap l hown b m c l2 hm h2 hbytes hbase o.type
  unfold Oper.wp execOp
  simp only [ho, resolve, invoke, builtin, Sem.run_bind, Sem.run_pure, Result.andThen_ok, List.map_toArray, List.map_cons, List.map_nil, hs, hx, hr]
  exact hK _ _ (h A' cap' w' h3 h4)
theorem tx_one (w : World) (x : List Nat) (hx : WfT x) : TxAt (w.alloc (.cells #[.string (strB x)] 9)) (some ⟨w.heap.size, 0, none⟩) [x] :=
  TxAt.of_row _ (fun y hy => by simp at hy; subst hy; exact hx) (heap_alloc_new' w _) ⟨[], rfl⟩
/-- A row of whole numbers that is all of a slice. -/
def RowT (w : World) (g : Nat) (l : List (List Nat)) : Prop := w.heap[g]? = some (.cells (tvs l).toArray 9 (0, 0))
section
variable {w : World} {g : Nat} {l : List (List Nat)}
theorem RowT.fr (h : RowT w g l) (i : Nat) : w.frozen? ⟨g, i, none⟩ = false := row_frozen h i
theorem RowT.at (h : RowT w g l) (i : Nat) (hi : i < l.length) : ∃ u, w.cell? ⟨g, i, none⟩ = some u := by
  rw [cell_of_row _ _ _ _ _ _ h, List.getElem?_toArray]
  exact ⟨_, List.getElem?_eq_getElem (by rw [tvs_length]; exact hi)⟩
theorem RowT.set (h : RowT w g l) (i : Nat) (x : List Nat) : RowT (w.setCell ⟨g, i, none⟩ (.string (strB x))) g (l.set i x) := by
  unfold RowT at *
  rw [World.setCell]
  simp only [Array.getElem?_modify, if_pos, h, Option.map_some]
  have e : (tvs l).toArray.setIfInBounds i (.string (strB x)) = (tvs (l.set i x)).toArray := by
    unfold tvs; rw [List.map_set]; simp; rfl
  simp [e]
theorem RowT.keep {S : Nat → Prop} {w' : World} (h : RowT w g l) (hk : Kept S w w') (hg : ¬ S g) : RowT w' g l := hk.heap h hg
theorem RowT.own {B : Nat} (h : RowT w g l) (hB : B ≤ g) (hl : ∀ x ∈ l, WfT x) (hm : l.length ≤ maxLen) : OwnX w B (some ⟨g, 0, none⟩) l.length l.length l := by
  refine ⟨⟨by rw [tvs_length]; omega, .inr ⟨g, l.length, _, rfl, hB, h, Nat.le_refl _, hm, by simp [tvs_length], by rw [Nat.mul_one]; simp [tvs_length, List.take_of_length_le]⟩⟩, hl⟩
end
theorem rowT_zeros {w : World} {B g q : Nat} (h : w.ownsRow B 9 1 (.slice (some ⟨g, 0, none⟩) q q) q (madeCells (Value.string { data := #[] }).cells (q * 1)).toList) : RowT w g (List.replicate q []) := by
  have e : tvs (List.replicate q []) = List.replicate q (.string { data := #[] }) := by unfold tvs; rw [List.map_replicate]; rfl
  rw [Nat.mul_one, show (Value.string { data := #[] }).cells = #[.string { data := #[] }] from rfl, toList_madeCells_one, ← e] at h
  rcases h.2 with ⟨h1, h2⟩ | ⟨g', cap', cur, h1, hb, hrow, -, -, hs, ht⟩
  · cases h1
  · cases h1
    unfold RowT
    rw [hrow]
    have hc : cur = (tvs (List.replicate q [])).toArray := by
      apply Array.ext'
      rw [← ht, Nat.mul_one, List.take_of_length_le (by rw [Array.length_toList, hs]; omega)]
    rw [hc]
theorem fill_setT (xs : List (List Nat)) (n k : Nat) (hx : xs.length = k) (hk : k < n) (x : List Nat) : (xs ++ List.replicate (n - k) []).set k x = (xs ++ [x]) ++ List.replicate (n - (k + 1)) [] := by
  obtain ⟨m, rfl⟩ : ∃ m, n = k + 1 + m := ⟨n - k - 1, by omega⟩
  rw [show k + 1 + m - k = m + 1 by omega, show k + 1 + m - (k + 1) = m by omega, List.replicate_succ, List.set_append_right _ _ (by omega), hx, Nat.sub_self, List.set_cons_zero, List.append_assoc]; rfl

/-- How one call ends. -/
def StepEndsT {σ : Type} (g : Nat) (Sw : Nat → Prop) (St : σ → World → Prop) (o : Option (List Nat × σ)) (w : World) (e : Ending) (w' : World) : Prop :=
  match o with
  | some p => e = .returned (.string (strB p.1)) ∧ WfT p.1 ∧ St p.2 w' ∧ Kept Sw w w'
  | none => e = .panicked [gu g] ∧ Gone w' g ∧ Kept Sw w w'
/-- How a reading of a list ends. -/
def ListEndsT {σ : Type} (g : Nat) (Sw : Nat → Prop) (St : σ → World → Prop) (o : Option (List (List Nat) × σ)) (w : World) (e : Ending) (w' : World) : Prop :=
  match o with
  | some p => (∃ A n cap, e = .returned (.slice A n cap) ∧ OwnX w' w.heap.size A n cap p.1) ∧ St p.2 w' ∧ Kept Sw w w'
  | none => e = .panicked [gu g] ∧ Gone w' g ∧ Kept Sw w w'
def RTt {σ : Type} (Sw : Nat → Prop) (St : σ → World → Prop) (step : σ → Option (List Nat × σ)) (n : Nat) (w : World) (s0 : σ) (v : Value) (wr : World) : Prop :=
  ∃ (k : Nat) (xs : List (List Nat)) (s : σ), k ≤ n ∧ v = .int .i64 (k : Int) ∧ runS step k s0 = some (xs, s) ∧ (∀ x ∈ xs, WfT x) ∧ RowT wr w.heap.size (xs ++ List.replicate (n - k) []) ∧ St s wr ∧ Kept Sw w wr ∧ w.heap.size < wr.heap.size
theorem infoStr' : (Tryd.prog.info? 9).map (fun i => (i.zero, i.size, i.bytes)) = some (some (.string { data := #[] }), 1, 16) := by kernel_rfl
set_option maxHeartbeats 2000000 in
theorem timesT_any {σ : Type} (step : σ → Option (List Nat × σ)) (F : Nat) (first cap : Array Value) (hent : ∀ (args : Array Value) (w : World), (callFunc F args).run Tryd.prog w = .ok (.enter F args) w)
    (n : Nat) (hn : n ≤ 4096) (g : Nat) (Sw : Nat → Prop) (St : σ → World → Prop) (w : World) (hSw : Hid (∀ k, Sw k → k < w.heap.size)) (hkeep : Hid (∀ s w1 w2, St s w1 → Kept (fun j => w.heap.size ≤ j) w1 w2 → St s w2))
    (s0 : σ) (hstep : Hid (∀ k xs s w1, k < n → runS step k s0 = some (xs, s) → St s w1 → w.heap.size ≤ w1.heap.size → Calls Tryd.prog F (first ++ cap) w1 (StepEndsT g Sw St (step s) w1))) (h0 : Hid (St s0 w)) :
    Calls Tryd.prog 87 #[.int .i64 (n : Int), .func (.func F) first cap] w (ListEndsT g Sw St (runS step n s0) w) := by
  obtain ⟨iu, hiu, hz0, hz1, hz2⟩ := info_parts infoStr'
  have hzb : iu.bytes * n ≤ 281474976710656 := by rw [hz2]; omega
  have hnm : n ≤ maxLen := by unfold maxLen; omega
  go_enter Tryd.func87, Tryd.ntmps87
  go_wp2_with (refine wpList_make_full _ rfl (.tmp 7) (.tmp 7) 48 rfl w.heap.size 9 iu (.string { data := #[] }) 1 Tryd.underlying48 hiu hz0 hz1 .i64 .i64 _ _ n rfl rfl rfl rfl hzb hnm (Nat.le_refl _) ?_; intro w1 own hgr; have HRI := Lib.hid (rowT_zeros own); have HB1 : Hid (Below w.heap.size w w1) := Lib.hid ((Below.refl _ w).grown hgr (Nat.le_refl _) (by intro k hk; cases hk)); clear own hgr)
  have HST : Hid (RTt Sw St step n w s0 (.int .i64 0) w1) := Lib.hid ⟨0, [], s0, Nat.zero_le _, rfl, rfl, (fun x hx => by cases hx), by simpa using HRI.out, hkeep.out _ _ _ h0.out (Kept.of_below HB1.out), Kept.of_below HB1.out, (Array.getElem?_eq_some_iff.1 HRI.out).1⟩
  obtain ⟨L, hL⟩ : ∃ L, L = w.heap.size := ⟨_, rfl⟩
  have HL := Lib.hid hL
  rw [← hL]
  clear hL HRI HB1
  go_loopw [11] (fun v wr => RTt Sw St step n w s0 v wr) (fun v _ => n - (intOf v).toNat)
  case atStart => exact HST.out
  case round =>
    obtain ⟨k, xs, s, hk, rfl, hrun, hwf, hrow, hst, hkp, hsz⟩ := hrel
    have HRUN := Lib.hid hrun; have HWF := Lib.hid hwf; have HST2 := Lib.hid hst; have HK := Lib.hid hkp; have HSZ := Lib.hid hsz
    have HROW : Hid (RowT wr L (xs ++ List.replicate (n - k) [])) := Lib.hid (HL.out ▸ hrow)
    have HXL := Lib.hid (runS_len hrun)
    clear hrun hwf hst hkp hrow HST hsz
    by_cases hlt : k < n
    · have HC := Lib.hid (hstep.out k xs s wr hlt HRUN.out HST2.out (Nat.le_of_lt HSZ.out))
      have HNS : Hid (¬ Sw L) := Lib.hid fun h => by have := hSw.out L h; have := HL.out; omega
      rcases hs : step s with _ | ⟨x, s'⟩
      · have HN := Lib.hid (runS_none HRUN.out hs n hlt)
        rw [hs] at HC
        have HC2 : Hid (Calls Tryd.prog F (first ++ cap) wr fun e w' => e = .panicked [gu g] ∧ Gone w' g ∧ Kept Sw wr w') := HC
        clear hs HC
        go_wp2_with ((with_reducible refine (HC2.out).mono ?_); rintro e w2 ⟨rfl, h1, h2⟩)
        rw [HN.out]
        exact ⟨rfl, rfl, h1, HK.out.trans h2⟩
      · have HN := Lib.hid (runS_some HRUN.out hs)
        rw [hs] at HC
        have HC2 : Hid (Calls Tryd.prog F (first ++ cap) wr fun e w' => e = .returned (.string (strB x)) ∧ WfT x ∧ St s' w' ∧ Kept Sw wr w') := HC
        have HSET := Lib.hid (fill_setT xs n k HXL.out hlt x)
        clear hs HC
        go_wp2_with ((with_reducible refine (HC2.out).mono ?_); rintro e w2 ⟨rfl, h1, h2, h3⟩; have HR2 : Hid (RowT w2 L _) := Lib.hid (HROW.out.keep h3 HNS.out); have HWX := Lib.hid h1; have HS2 := Lib.hid h2; have HK2 := Lib.hid h3; have f2 := HR2.out.fr k; obtain ⟨u2, c2⟩ := HR2.out.at k (by rw [List.length_append, List.length_replicate, HXL.out]; omega); clear h1 h2 h3)
        go_roundw
        case rel =>
          have hk2 : Kept (fun j => w.heap.size ≤ j) w2 (w2.setCell ⟨L, k, none⟩ (.string (strB x))) := (Kept.refl _ _).setCell _ _ (.inl (by rw [HL.out]; exact Nat.le_refl _))
          refine ⟨k + 1, xs ++ [x], s', by omega, by go_num, HN.out, fun y hy => ?_, ?_, hkeep.out _ _ _ HS2.out hk2, (HK.out.trans HK2.out).trans' hk2 (fun i hi => .inr hi), ?_⟩
          · rcases List.mem_append.1 hy with h | h
            · exact HWF.out y h
            · rw [List.mem_singleton.1 h]; exact HWX.out
          · rw [← HSET.out, ← HL.out]; exact HR2.out.set k x
          · rw [setCell_size]; exact Nat.lt_of_lt_of_le HSZ.out HK2.out.size
        case measure => simp [intOf]; omega
    · obtain rfl : k = n := by omega
      go_wp2
      go_ret
      rw [HRUN.out]
      have hr := HROW.out
      rw [Nat.sub_self, List.replicate_zero, List.append_nil] at hr
      have ho := hr.own (B := w.heap.size) (by rw [HL.out]; exact Nat.le_refl _) HWF.out (by rw [HXL.out]; exact hnm)
      rw [HXL.out] at ho
      exact ⟨⟨_, _, _, rfl, ho⟩, HST2.out, HK.out⟩
end Go.Proofs.YtpobfgokikfmbaaDoor
