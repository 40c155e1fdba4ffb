/-
  Layer column: the least and the greatest, how many bits, numbers packed.
-/
import Derived.Lib.Tables
import Derived.Laws.MathBits
import Derived.Outline
import Derived.OwnWalk
import Derived.Test.YtpobfgokikfmbaaDoorQPrds1
set_option linter.unusedSimpArgs false
set_option linter.unusedVariables false
set_option maxRecDepth 8000
namespace Go.Proofs.YtpobfgokikfmbaaDoor
open Go.RowKit Go.WideShapes Col

theorem ret_eqC {v v' : Value} (h : v = v') : Ending.returned v = Ending.returned v' := by rw [h]
theorem len_byteC (y : Nat) (_hy : y < 256) (p : y < Lib.len8tab.size) : ((Lib.len8tab[y]'p).toNat : Int) = (bitLen y : Nat) := by
  have h := len8tab_get y (by exact p)
  exact congrArg Int.ofNat h
theorem len_atC (x y : Int) (k : Nat) (K : Int) (hK : K = (k : Nat)) (hk : k ≤ 56) (h0 : 0 ≤ y) (h1 : y < 256) (e : y.toNat = x.toNat / 2 ^ k) (hy : y ≠ 0) (p : y.toNat < Lib.len8tab.size) :
    wrap64 (K + wrap64 ((Lib.len8tab[y.toNat]'p).toNat : Int)) = (bitLen x.toNat : Nat) := by
  rw [len_byteC _ (by omega) p]
  have h8 := bitLen_le8 y.toNat (by omega)
  have hs := bitLen_shift x.toNat k (by rw [← e]; omega)
  rw [← e] at hs
  unfold wrap64
  omega
theorem len_lowC (x : Int) (h0 : 0 ≤ x) (h1 : x < 256) (p : x.toNat < Lib.len8tab.size) : wrap64 (wrap64 ((Lib.len8tab[x.toNat]'p).toNat : Int)) = (bitLen x.toNat : Nat) := by
  rw [len_byteC _ (by omega) p]
  have h8 := bitLen_le8 x.toNat (by omega)
  unfold wrap64
  omega
namespace Col
def mnL (l : List Int) : Int := l.foldl min (l.headD 0)
def mxL (l : List Int) : Int := l.foldl max (l.headD 0)
theorem fmin_le : ∀ (l : List Int) (a : Int), l.foldl min a ≤ a ∧ ∀ x ∈ l, l.foldl min a ≤ x
  | [], a => ⟨Int.le_refl _, fun x h => by cases h⟩
  | y :: l, a => by
    obtain ⟨h1, h2⟩ := fmin_le l (min a y)
    refine ⟨by rw [List.foldl_cons]; omega, fun x hx => ?_⟩
    rw [List.foldl_cons]
    rcases List.mem_cons.1 hx with rfl | hx
    · omega
    · exact h2 x hx
theorem fmax_ge : ∀ (l : List Int) (a : Int), a ≤ l.foldl max a ∧ ∀ x ∈ l, x ≤ l.foldl max a
  | [], a => ⟨Int.le_refl _, fun x h => by cases h⟩
  | y :: l, a => by
    obtain ⟨h1, h2⟩ := fmax_ge l (max a y)
    refine ⟨by rw [List.foldl_cons]; omega, fun x hx => ?_⟩
    rw [List.foldl_cons]
    rcases List.mem_cons.1 hx with rfl | hx
    · omega
    · exact h2 x hx
theorem fmin_wf : ∀ (l : List Int) (a : Int), Wf64 a → (∀ x ∈ l, Wf64 x) → Wf64 (l.foldl min a)
  | [], a, h, _ => h
  | y :: l, a, h, hl => by
    rw [List.foldl_cons]
    refine fmin_wf l _ ?_ fun x hx => hl x (List.mem_cons_of_mem _ hx)
    have := hl y (List.mem_cons_self ..)
    unfold Wf64 at *; omega
theorem fmax_wf : ∀ (l : List Int) (a : Int), Wf64 a → (∀ x ∈ l, Wf64 x) → Wf64 (l.foldl max a)
  | [], a, h, _ => h
  | y :: l, a, h, hl => by
    rw [List.foldl_cons]
    refine fmax_wf l _ ?_ fun x hx => hl x (List.mem_cons_of_mem _ hx)
    have := hl y (List.mem_cons_self ..)
    unfold Wf64 at *; omega
theorem head_wf {l : List Int} (h : ∀ x ∈ l, Wf64 x) : Wf64 (l.headD 0) := by
  cases l with
  | nil => exact ⟨by simp, by simp⟩
  | cons x l => exact h x (List.mem_cons_self ..)
theorem mnL_wf {l : List Int} (h : ∀ x ∈ l, Wf64 x) : Wf64 (mnL l) := fmin_wf l _ (head_wf h) h
theorem mxL_wf {l : List Int} (h : ∀ x ∈ l, Wf64 x) : Wf64 (mxL l) := fmax_wf l _ (head_wf h) h
theorem fold_snoc (f : Int → Int → Int) (a : Int) (l : List Int) (k : Nat) (x : Int) (h : l[k]? = some x) : (l.take (k + 1)).foldl f a = f ((l.take k).foldl f a) x := by
  rw [List.take_add_one, h]; simp
theorem head_get {l : List Int} {x : Int} (h : l[0]? = some x) : l.headD 0 = x := by
  cases l with
  | nil => simp at h
  | cons y l => simpa using h
end Col

def MR (w : World) (l : List Int) (f : Int → Int → Int) (p q : Value) (wr : World) : Prop := ∃ (k : Nat), 1 ≤ k ∧ k ≤ l.length ∧ q = .int .i64 (k : Int) ∧ p = .int .i64 ((l.take k).foldl f (l.headD 0)) ∧ w = wr
set_option maxHeartbeats 1000000 in
theorem byteCount_any (n : Nat) (hn : n < 1099511627776) (w : World) : Calls Tryd.prog 84 #[.int .i64 (n : Int)] w fun e w' => e = .returned (.int .i64 (((n + 7) / 8 : Nat) : Int)) ∧ w = w' := by
  obtain ⟨q, hq⟩ : ∃ q : Nat, q = (n + 7) / 8 := ⟨_, rfl⟩
  have hq2 : ((n : Int) + 7).tdiv 8 = (q : Int) := by rw [Int.tdiv_eq_ediv_of_nonneg (by omega)]; omega
  have hq3 : ((n : Int) + 7) / 8 = (q : Int) := by omega
  rw [← hq]
  have HQ := Lib.hid hq
  clear hq
  go_enter Tryd.func84, Tryd.ntmps84
  go_wp2
  go_ret
  exact ⟨rfl, rfl⟩
end Go.Proofs.YtpobfgokikfmbaaDoor

set_option linter.unusedSimpArgs false
set_option linter.unusedVariables false
set_option maxRecDepth 8000
namespace Go.Proofs.YtpobfgokikfmbaaDoor
open Go.RowKit Go.WideShapes Col
namespace Col
/-- Digits, the lowest first. -/
def pk (W : Nat) : List Nat → Nat
  | [] => 0
  | d :: r => d + 2 ^ W * pk W r
theorem pk_app (W : Nat) : ∀ (l m : List Nat), pk W (l ++ m) = pk W l + 2 ^ (W * l.length) * pk W m
  | [], m => by simp [pk]
  | d :: l, m => by
    have ih := pk_app W l m
    have e : 2 ^ (W * (l.length + 1)) = 2 ^ W * 2 ^ (W * l.length) := by rw [Nat.mul_add, Nat.mul_one, Nat.add_comm, Nat.pow_add]
    rw [List.cons_append, pk, pk, ih, List.length_cons, e, Nat.mul_add, Nat.mul_assoc, Nat.add_assoc]
theorem pk_snoc (W : Nat) (l : List Nat) (k d : Nat) (h : l[k]? = some d) : pk W (l.take (k + 1)) = pk W (l.take k) + d * 2 ^ (k * W) := by
  have hk := (List.getElem?_eq_some_iff.1 h).1
  rw [List.take_add_one, h, pk_app, List.length_take, Nat.min_eq_left (by omega)]
  simp [pk, Nat.mul_comm]
theorem pk_lt (W : Nat) : ∀ (l : List Nat), (∀ d ∈ l, d < 2 ^ W) → pk W l < 2 ^ (W * l.length)
  | [], _ => by simp [pk]
  | d :: l, h => by
    have h1 := h d (List.mem_cons_self ..)
    have h2 := pk_lt W l fun x hx => h x (List.mem_cons_of_mem _ hx)
    rw [pk, List.length_cons, Nat.mul_add, Nat.mul_one, Nat.add_comm (W * l.length), Nat.pow_add]
    have h3 : 2 ^ W * (pk W l + 1) ≤ 2 ^ W * 2 ^ (W * l.length) := Nat.mul_le_mul_left _ h2
    rw [Nat.mul_add] at h3
    omega
theorem pk_take_lt (W : Nat) (l : List Nat) (k : Nat) (hk : k ≤ l.length) (h : ∀ d ∈ l, d < 2 ^ W) : pk W (l.take k) < 2 ^ (k * W) := by
  have := pk_lt W (l.take k) fun d hd => h d (List.mem_of_mem_take hd)
  rwa [List.length_take, Nat.min_eq_left hk, Nat.mul_comm] at this
/-- The distance from the least. -/
def dig (mn x : Int) : Nat := (x - mn).toNat
def wid (l : List Int) : Nat := bitLen (mxL l - mnL l).toNat
def digs (l : List Int) : List Nat := l.map (dig (mnL l))
def lpk (l : List Int) : List Nat := if l = [] then [] else ub (zz (mnL l)) ++ ([wid l] ++ leb ((l.length * wid l + 7) / 8) (pk (wid l) (digs l)))
theorem lpk_nil : lpk [] = [] := rfl
theorem lpk_some {l : List Int} (h : 0 < l.length) : lpk l = ub (zz (mnL l)) ++ ([wid l] ++ leb ((l.length * wid l + 7) / 8) (pk (wid l) (digs l))) := by
  unfold lpk; rw [if_neg (by intro e; rw [e] at h; cases h)]
theorem mn_le {l : List Int} {x : Int} (h : x ∈ l) : mnL l ≤ x := (fmin_le l _).2 x h
theorem mx_ge {l : List Int} {x : Int} (h : x ∈ l) : x ≤ mxL l := (fmax_ge l _).2 x h
theorem mn_mx (l : List Int) : mnL l ≤ mxL l := by
  have h1 := (fmin_le l (l.headD 0)).1; have h2 := (fmax_ge l (l.headD 0)).1
  unfold mnL mxL; omega
theorem dig_lt {l : List Int} : ∀ d ∈ digs l, d < 2 ^ wid l := fun d hd => by
  obtain ⟨x, hx, rfl⟩ := List.mem_map.1 hd
  have h1 := mn_le hx; have h2 := mx_ge hx
  have h3 := (bitLen_spec (mxL l - mnL l).toNat).1
  unfold dig wid
  exact Nat.lt_of_le_of_lt (by omega) h3
theorem wid_le {l : List Int} (h : ∀ x ∈ l, Wf64 x) : wid l ≤ 64 := by
  have h1 := mnL_wf h; have h2 := mxL_wf h; have h3 := mn_mx l
  unfold Wf64 at h1 h2
  have hs := bitLen_spec (mxL l - mnL l).toNat
  unfold wid
  by_cases h0 : (mxL l - mnL l).toNat = 0
  · rw [h0]; decide
  · have h4 := hs.2 h0
    have h5 : 2 ^ (bitLen (mxL l - mnL l).toNat - 1) < 2 ^ 64 := by omega
    have := (Nat.pow_lt_pow_iff_right (by decide)).1 h5
    omega
theorem dig_u64 {mn x : Int} (h : mn ≤ x) (h1 : Wf64 mn) (h2 : Wf64 x) : IntKind.u64.wrap (wrap64 (x - mn)) = ((dig mn x : Nat) : Int) ∧ dig mn x < 18446744073709551616 := by
  unfold Wf64 at h1 h2
  unfold dig
  refine ⟨?_, by omega⟩
  rw [IntKind.wrap_u64]; unfold wrap64; omega
end Col

theorem OwnS.ltC {w : World} {B n cap : Nat} {A : Option Addr} {l : List Nat} (h : OwnS w B A n cap l) (k : Nat) (hk : A.map (·.block) = some k) : k < w.heap.size := by
  rcases h.1.2 with ⟨h1, _⟩ | ⟨a, cap', cur, h1, hb, hrow, -⟩
  · injection h1 with e1 e2 e3; rw [e1] at hk; cases hk
  · injection h1 with e1 e2 e3; rw [e1] at hk; simp at hk; subst hk; exact (Array.getElem?_eq_some_iff.1 hrow).1
theorem OwnS.keptG {w w' : World} {B n cap g : Nat} {A : Option Addr} {l : List Nat} (h : OwnS w B A n cap l) (hk : Kept (Only g) w w') (hne : ∀ k, A.map (·.block) = some k → k ≠ g) : OwnS w' B A n cap l :=
  ⟨h.1.kept (row := some g) ⟨hk.os, hk.tape, hk.output, hk.size, fun k hk' hn => hk.block k hk' (fun e => hn (by rw [show k = g from e]))⟩ (by
    rcases A with _ | a
    · simp [Value.ownBlock]
    · have := hne a.block rfl
      simp [Value.ownBlock]; intro e; exact this (by first | exact e | exact e.symm)), h.2⟩
theorem infoByteC : (Tryd.prog.info? 5).map (fun i => (i.zero, i.size, i.bytes)) = some (some (.int .u8 0), 1, 1) := by kernel_rfl
theorem rowB_zeros {w : World} {B g q : Nat} (h : w.ownsRow B 5 1 (.slice (some ⟨g, 0, none⟩) q q) q (madeCells (Value.int .u8 0).cells (q * 1)).toList) : RowB w g (leb q 0) := by
  rw [leb_zero]
  have e : bys (List.replicate q 0) = List.replicate q (.int .u8 0) := by unfold bys; rw [List.map_replicate]; rfl
  rw [Nat.mul_one, show (Value.int .u8 0).cells = #[.int .u8 0] from rfl, toList_madeCells_one, ← e] at h
  rcases h.2 with ⟨h1, h2⟩ | ⟨g', cap', cur, h1, hb, hrow, -, -, hs, ht⟩
  · cases h1
  · cases h1
    unfold RowB
    rw [hrow]
    have hc : cur = (bys (List.replicate q 0)).toArray := by
      apply Array.ext'
      rw [← ht, Nat.mul_one, List.take_of_length_le (by rw [Array.length_toList, hs]; omega)]
    rw [hc]
def PL (g K W : Nat) (ds : List Nat) (m : Nat) (w4 : World) (v : Value) (wr : World) : Prop := ∃ i : Nat, i ≤ m ∧ v = .int .i64 (i : Int) ∧ RowB wr g (leb K (pk W (ds.take i))) ∧ Kept (Only g) w4 wr
end Go.Proofs.YtpobfgokikfmbaaDoor

set_option linter.unusedSimpArgs false
set_option linter.unusedVariables false
set_option maxRecDepth 8000
namespace Go.Proofs.YtpobfgokikfmbaaDoor
open Go.RowKit Go.WideShapes Col
namespace Col
/-- Whole numbers, laid in a way. -/
def asL (way : Nat) (l : List Int) : List Nat := [way] ++ ub l.length ++ (if way = 0 then lpl l else if way = 1 then lde 0 l else if way = 2 then lru l else lpk l)
theorem lpl_len : ∀ l : List Int, (∀ x ∈ l, Wf64 x) → (lpl l).length ≤ 10 * l.length
  | [], _ => Nat.le_refl _
  | x :: l, h => by
    have h1 := zz10 (h x (List.mem_cons_self ..))
    have h2 := lpl_len l fun y hy => h y (List.mem_cons_of_mem _ hy)
    unfold lpl at *
    rw [List.flatMap_cons, List.length_append, List.length_cons]; omega
theorem lde_len : ∀ (l : List Int) (p : Int), (lde p l).length ≤ 10 * l.length
  | [], _ => Nat.le_refl _
  | x :: l, p => by
    have h1 := zz10 (sub64_wf x p)
    have h2 := lde_len l x
    rw [lde, List.length_append, List.length_cons]; omega
theorem lru_len (n : Nat) : ∀ l : List Int, l.length ≤ n → l.length ≤ 1000000 → (∀ x ∈ l, Wf64 x) → (lru l).length ≤ 20 * l.length := by
  induction n with
  | zero => intro l h _ _; rw [List.eq_nil_of_length_eq_zero (by omega : l.length = 0), lru_nil]; simp
  | succ n ih =>
    intro l h h1 h2
    rcases l with _ | ⟨x, l⟩
    · rw [lru_nil]; simp
    · rw [lru]
      have hr := runN_le x l
      have h3 := ih (l.drop (runN x l)) (by rw [List.length_drop]; simp at h; omega) (by rw [List.length_drop]; simp at h1; omega) fun y hy => h2 y (List.mem_cons_of_mem _ (List.mem_of_mem_drop hy))
      have h4 := zz10 (h2 x (List.mem_cons_self ..))
      have h5 : (ub (runN x l)).length ≤ 10 := ub10 (by simp at h1; omega)
      rw [List.length_drop] at h3
      rw [List.length_append, List.length_append, List.length_cons]; omega
theorem lpk_len (l : List Int) (h : ∀ x ∈ l, Wf64 x) : (lpk l).length ≤ 12 + 8 * l.length := by
  by_cases h0 : 0 < l.length
  · rw [lpk_some h0, List.length_append, List.length_append, leb_length]
    have h1 := zz10 (mnL_wf h)
    have h2 := wid_le h
    have h3 : l.length * wid l ≤ l.length * 64 := Nat.mul_le_mul_left _ h2
    simp only [List.length_cons, List.length_nil]; omega
  · rw [List.eq_nil_of_length_eq_zero (by omega : l.length = 0), lpk_nil]; simp
theorem asL_len (way : Nat) (l : List Int) (h : ∀ x ∈ l, Wf64 x) (hl : l.length ≤ 1000000) : (asL way l).length ≤ 23 + 20 * l.length := by
  have h1 : (ub l.length).length ≤ 10 := ub10 (by omega)
  unfold asL
  rw [List.length_append, List.length_append]
  have h2 := lpl_len l h; have h3 := lde_len l 0; have h4 := lru_len _ l (Nat.le_refl _) hl h; have h5 := lpk_len l h
  simp only [List.length_cons, List.length_nil]
  split
  · omega
  · split
    · omega
    · split <;> omega
end Col
end Go.Proofs.YtpobfgokikfmbaaDoor

set_option linter.unusedSimpArgs false
set_option linter.unusedVariables false
set_option maxRecDepth 8000
namespace Go.Proofs.YtpobfgokikfmbaaDoor
open Go.RowKit Go.WideShapes Col
namespace Col
/-- The shorter one, and of two the first. -/
def pickL (best : List Nat) (p : List Nat) : List Nat := if p.length < best.length then p else best
def bestL (k : Nat) (l : List Int) : List Nat := match k with
  | 0 => asL 0 l
  | k + 1 => pickL (bestL k l) (asL (k + 1) l)
def intsL (l : List Int) : List Nat := bestL 3 l
end Col
def RI (W : World) (l : List Int) (u v : Value) (wr : World) : Prop := ∃ (k : Nat) (A : Option Addr) (n cap : Nat), k ≤ 3 ∧ v = .int .u8 ((k + 1 : Nat) : Int) ∧ u = .slice A n cap ∧ OwnS wr W.heap.size A n cap (bestL k l) ∧ Below W.heap.size W wr
theorem ints_777 : intsL [7, 7, 7] = [2, 3, 14, 2] := by decide +kernel
end Go.Proofs.YtpobfgokikfmbaaDoor

set_option linter.unusedSimpArgs false
set_option linter.unusedVariables false
set_option maxRecDepth 8000
namespace Go.Proofs.YtpobfgokikfmbaaDoor
open Go.RowKit Go.WideShapes Col
theorem str_777 : strB [2, 3, 14, 2] = { data := #[2, 3, 14, 2] } := by decide +kernel
end Go.Proofs.YtpobfgokikfmbaaDoor

set_option linter.unusedSimpArgs false
set_option linter.unusedVariables false
set_option maxRecDepth 8000
namespace Go.Proofs.YtpobfgokikfmbaaDoor
open Go.RowKit Go.WideShapes Col
namespace Col
/-- So many steps, one behind the other: what they tell, and what is left. -/
def runS {σ α : Type} (step : σ → Option (α × σ)) : Nat → σ → Option (List α × σ)
  | 0, s => some ([], s)
  | k + 1, s => (runS step k s).bind fun p => (step p.2).map fun r => (p.1 ++ [r.1], r.2)
theorem runS_some {σ α : Type} {step : σ → Option (α × σ)} {k : Nat} {s s' s2 : σ} {xs : List α} {x : α} (h : runS step k s = some (xs, s')) (h2 : step s' = some (x, s2)) : runS step (k + 1) s = some (xs ++ [x], s2) := by
  rw [runS, h]; simp [h2]
theorem runS_none {σ α : Type} {step : σ → Option (α × σ)} {k : Nat} {s s' : σ} {xs : List α} (h : runS step k s = some (xs, s')) (h2 : step s' = none) : ∀ n, k < n → runS step n s = none := by
  intro n hn
  induction n with
  | zero => omega
  | succ n ih =>
    by_cases hk : k = n
    · subst hk; rw [runS, h]; simp [h2]
    · rw [runS, ih (by omega)]; rfl
theorem runS_len {σ α : Type} {step : σ → Option (α × σ)} : ∀ {k : Nat} {s s' : σ} {xs : List α}, runS step k s = some (xs, s') → xs.length = k
  | 0, s, s', xs, h => by rw [runS] at h; injection h with h; injection h with h1 h2; rw [← h1]; rfl
  | k + 1, s, s', xs, h => by
    rw [runS] at h
    rcases hr : runS step k s with _ | ⟨ys, s1⟩
    · rw [hr] at h; cases h
    · rw [hr] at h
      simp only [Option.bind_some] at h
      rcases hs : step s1 with _ | ⟨x, s2⟩
      · rw [hs] at h; cases h
      · rw [hs] at h; injection h with h; injection h with h1 h2
        rw [← h1, List.length_append, runS_len hr]; rfl
end Col

/-- A row of whole numbers that is all of a slice. -/
def RowI (w : World) (g : Nat) (l : List Int) : Prop := w.heap[g]? = some (.cells (ivs l).toArray 2 (0, 0))
section
variable {w : World} {g : Nat} {l : List Int}
theorem RowI.fr (h : RowI w g l) (i : Nat) : w.frozen? ⟨g, i, none⟩ = false := row_frozen h i
theorem RowI.at (h : RowI w g l) (i : Nat) (hi : i < l.length) : ∃ u, w.cell? ⟨g, i, none⟩ = some u := by
  rw [cell_of_row _ _ _ _ _ _ h, List.getElem?_toArray]
  exact ⟨_, List.getElem?_eq_getElem (by rw [ivs_length]; exact hi)⟩
theorem RowI.set (h : RowI w g l) (i : Nat) (x : Int) : RowI (w.setCell ⟨g, i, none⟩ (.int .i64 x)) g (l.set i x) := by
  unfold RowI at *
  rw [World.setCell]
  simp only [Array.getElem?_modify, if_pos, h, Option.map_some]
  have e : (ivs l).toArray.setIfInBounds i (.int .i64 x) = (ivs (l.set i x)).toArray := by
    unfold ivs; rw [List.map_set]; simp; rfl
  simp [e]
theorem RowI.keep {S : Nat → Prop} {w' : World} (h : RowI w g l) (hk : Kept S w w') (hg : ¬ S g) : RowI w' g l := hk.heap h hg
theorem RowI.own {B : Nat} (h : RowI w g l) (hB : B ≤ g) (hl : ∀ x ∈ l, Wf64 x) (hm : l.length ≤ maxLen) : OwnI w B (some ⟨g, 0, none⟩) l.length l.length l := by
  refine ⟨⟨by rw [ivs_length]; omega, .inr ⟨g, l.length, _, rfl, hB, h, Nat.le_refl _, hm, by simp [ivs_length], by rw [Nat.mul_one]; simp [ivs_length, List.take_of_length_le]⟩⟩, hl⟩
end
theorem rowI_zeros {w : World} {B g q : Nat} (h : w.ownsRow B 2 1 (.slice (some ⟨g, 0, none⟩) q q) q (madeCells (Value.int .i64 0).cells (q * 1)).toList) : RowI w g (List.replicate q 0) := by
  have e : ivs (List.replicate q 0) = List.replicate q (.int .i64 0) := by unfold ivs; rw [List.map_replicate]; rfl
  rw [Nat.mul_one, show (Value.int .i64 0).cells = #[.int .i64 0] from rfl, toList_madeCells_one, ← e] at h
  rcases h.2 with ⟨h1, h2⟩ | ⟨g', cap', cur, h1, hb, hrow, -, -, hs, ht⟩
  · cases h1
  · cases h1
    unfold RowI
    rw [hrow]
    have hc : cur = (ivs (List.replicate q 0)).toArray := by
      apply Array.ext'
      rw [← ht, Nat.mul_one, List.take_of_length_le (by rw [Array.length_toList, hs]; omega)]
    rw [hc]
theorem fill_set (xs : List Int) (n k : Nat) (hx : xs.length = k) (hk : k < n) (x : Int) : (xs ++ List.replicate (n - k) 0).set k x = (xs ++ [x]) ++ List.replicate (n - (k + 1)) 0 := by
  obtain ⟨m, rfl⟩ : ∃ m, n = k + 1 + m := ⟨n - k - 1, by omega⟩
  rw [show k + 1 + m - k = m + 1 by omega, show k + 1 + m - (k + 1) = m by omega, List.replicate_succ, List.set_append_right _ _ (by omega), hx, Nat.sub_self, List.set_cons_zero, List.append_assoc]; rfl

/-- How one call ends. -/
def StepEnds {σ : Type} (g : Nat) (Sw : Nat → Prop) (St : σ → World → Prop) (o : Option (Int × σ)) (w : World) (e : Ending) (w' : World) : Prop :=
  match o with
  | some p => e = .returned (.int .i64 p.1) ∧ Wf64 p.1 ∧ St p.2 w' ∧ Kept Sw w w'
  | none => e = .panicked [gu g] ∧ Gone w' g ∧ Kept Sw w w'
/-- How a reading of a list ends. -/
def ListEnds {σ : Type} (g : Nat) (Sw : Nat → Prop) (St : σ → World → Prop) (o : Option (List Int × σ)) (w : World) (e : Ending) (w' : World) : Prop :=
  match o with
  | some p => (∃ A n cap, e = .returned (.slice A n cap) ∧ OwnI w' w.heap.size A n cap p.1) ∧ St p.2 w' ∧ Kept Sw w w'
  | none => e = .panicked [gu g] ∧ Gone w' g ∧ Kept Sw w w'
def RT {σ : Type} (Sw : Nat → Prop) (St : σ → World → Prop) (step : σ → Option (Int × σ)) (n : Nat) (w : World) (s0 : σ) (v : Value) (wr : World) : Prop :=
  ∃ (k : Nat) (xs : List Int) (s : σ), k ≤ n ∧ v = .int .i64 (k : Int) ∧ runS step k s0 = some (xs, s) ∧ (∀ x ∈ xs, Wf64 x) ∧ RowI wr w.heap.size (xs ++ List.replicate (n - k) 0) ∧ St s wr ∧ Kept Sw w wr ∧ w.heap.size < wr.heap.size
theorem infoI64' : (Tryd.prog.info? 2).map (fun i => (i.zero, i.size, i.bytes)) = some (some (.int .i64 0), 1, 8) := by kernel_rfl
set_option maxHeartbeats 2000000 in
theorem times_any {σ : Type} (step : σ → Option (Int × σ)) (F : Nat) (first cap : Array Value) (hent : ∀ (args : Array Value) (w : World), (callFunc F args).run Tryd.prog w = .ok (.enter F args) w)
    (n : Nat) (hn : n ≤ 4096) (g : Nat) (Sw : Nat → Prop) (St : σ → World → Prop) (w : World) (hSw : Hid (∀ k, Sw k → k < w.heap.size)) (hkeep : Hid (∀ s w1 w2, St s w1 → Kept (fun j => w.heap.size ≤ j) w1 w2 → St s w2))
    (s0 : σ) (hstep : Hid (∀ k xs s w1, k < n → runS step k s0 = some (xs, s) → St s w1 → w.heap.size ≤ w1.heap.size → Calls Tryd.prog F (first ++ cap) w1 (StepEnds g Sw St (step s) w1))) (h0 : Hid (St s0 w)) :
    Calls Tryd.prog 69 #[.int .i64 (n : Int), .func (.func F) first cap] w (ListEnds g Sw St (runS step n s0) w) := by
  obtain ⟨iu, hiu, hz0, hz1, hz2⟩ := info_parts infoI64'
  have hzb : iu.bytes * n ≤ 281474976710656 := by rw [hz2]; omega
  have hnm : n ≤ maxLen := by unfold maxLen; omega
  go_enter Tryd.func69, Tryd.ntmps69
  go_wp2_with (refine wpList_make_full _ rfl (.tmp 7) (.tmp 7) 50 rfl w.heap.size 2 iu (.int .i64 0) 1 Tryd.underlying50 hiu hz0 hz1 .i64 .i64 _ _ n rfl rfl rfl rfl hzb hnm (Nat.le_refl _) ?_; intro w1 own hgr; have HRI := Lib.hid (rowI_zeros own); have HB1 : Hid (Below w.heap.size w w1) := Lib.hid ((Below.refl _ w).grown hgr (Nat.le_refl _) (by intro k hk; cases hk)); clear own hgr)
  have HST : Hid (RT Sw St step n w s0 (.int .i64 0) w1) := Lib.hid ⟨0, [], s0, Nat.zero_le _, rfl, rfl, (fun x hx => by cases hx), by simpa using HRI.out, hkeep.out _ _ _ h0.out (Kept.of_below HB1.out), Kept.of_below HB1.out, (Array.getElem?_eq_some_iff.1 HRI.out).1⟩
  obtain ⟨L, hL⟩ : ∃ L, L = w.heap.size := ⟨_, rfl⟩
  have HL := Lib.hid hL
  rw [← hL]
  clear hL HRI HB1
  go_loopw [11] (fun v wr => RT Sw St step n w s0 v wr) (fun v _ => n - (intOf v).toNat)
  case atStart => exact HST.out
  case round =>
    obtain ⟨k, xs, s, hk, rfl, hrun, hwf, hrow, hst, hkp, hsz⟩ := hrel
    have HRUN := Lib.hid hrun; have HWF := Lib.hid hwf; have HST2 := Lib.hid hst; have HK := Lib.hid hkp; have HSZ := Lib.hid hsz
    have HROW : Hid (RowI wr L (xs ++ List.replicate (n - k) 0)) := Lib.hid (HL.out ▸ hrow)
    have HXL := Lib.hid (runS_len hrun)
    clear hrun hwf hst hkp hrow HST hsz
    by_cases hlt : k < n
    · have HC := Lib.hid (hstep.out k xs s wr hlt HRUN.out HST2.out (Nat.le_of_lt HSZ.out))
      have HNS : Hid (¬ Sw L) := Lib.hid fun h => by have := hSw.out L h; have := HL.out; omega
      rcases hs : step s with _ | ⟨x, s'⟩
      · have HN := Lib.hid (runS_none HRUN.out hs n hlt)
        rw [hs] at HC
        have HC2 : Hid (Calls Tryd.prog F (first ++ cap) wr fun e w' => e = .panicked [gu g] ∧ Gone w' g ∧ Kept Sw wr w') := HC
        clear hs HC
        go_wp2_with ((with_reducible refine (HC2.out).mono ?_); rintro e w2 ⟨rfl, h1, h2⟩)
        rw [HN.out]
        exact ⟨rfl, rfl, h1, HK.out.trans h2⟩
      · have HN := Lib.hid (runS_some HRUN.out hs)
        rw [hs] at HC
        have HC2 : Hid (Calls Tryd.prog F (first ++ cap) wr fun e w' => e = .returned (.int .i64 x) ∧ Wf64 x ∧ St s' w' ∧ Kept Sw wr w') := HC
        have HSET := Lib.hid (fill_set xs n k HXL.out hlt x)
        clear hs HC
        go_wp2_with ((with_reducible refine (HC2.out).mono ?_); rintro e w2 ⟨rfl, h1, h2, h3⟩; have HR2 : Hid (RowI w2 L _) := Lib.hid (HROW.out.keep h3 HNS.out); have HWX := Lib.hid h1; have HS2 := Lib.hid h2; have HK2 := Lib.hid h3; have f2 := HR2.out.fr k; obtain ⟨u2, c2⟩ := HR2.out.at k (by rw [List.length_append, List.length_replicate, HXL.out]; omega); clear h1 h2 h3)
        go_roundw
        case rel =>
          have hk2 : Kept (fun j => w.heap.size ≤ j) w2 (w2.setCell ⟨L, k, none⟩ (.int .i64 x)) := (Kept.refl _ _).setCell _ _ (.inl (by rw [HL.out]; exact Nat.le_refl _))
          refine ⟨k + 1, xs ++ [x], s', by omega, by go_num, HN.out, fun y hy => ?_, ?_, hkeep.out _ _ _ HS2.out hk2, (HK.out.trans HK2.out).trans' hk2 (fun i hi => .inr hi), ?_⟩
          · rcases List.mem_append.1 hy with h | h
            · exact HWF.out y h
            · rw [List.mem_singleton.1 h]; exact HWX.out
          · rw [← HSET.out, ← HL.out]; exact HR2.out.set k x
          · rw [setCell_size]; exact Nat.lt_of_lt_of_le HSZ.out HK2.out.size
        case measure => simp [intOf]; omega
    · obtain rfl : k = n := by omega
      go_wp2
      go_ret
      rw [HRUN.out]
      have hr := HROW.out
      rw [Nat.sub_self, List.replicate_zero, List.append_nil] at hr
      have ho := hr.own (B := w.heap.size) (by rw [HL.out]; exact Nat.le_refl _) HWF.out (by rw [HXL.out]; exact hnm)
      rw [HXL.out] at ho
      exact ⟨⟨_, _, _, rfl, ho⟩, HST2.out, HK.out⟩
end Go.Proofs.YtpobfgokikfmbaaDoor

set_option linter.unusedSimpArgs false
set_option linter.unusedVariables false
set_option maxRecDepth 8000
namespace Go.Proofs.YtpobfgokikfmbaaDoor
open Go.RowKit Go.WideShapes Col
namespace Col
/-- The number of some bytes. -/
def vlb : List Nat → Nat
  | [] => 0
  | b :: r => b + 256 * vlb r
theorem leb_vlb : ∀ l : List Nat, (∀ x ∈ l, x < 256) → leb l.length (vlb l) = l
  | [], _ => rfl
  | b :: r, h => by
    have hb := h b (List.mem_cons_self ..)
    rw [List.length_cons, leb, vlb, Nat.add_mul_mod_self_left, Nat.mod_eq_of_lt hb, Nat.add_mul_div_left _ _ (by decide), Nat.div_eq_of_lt hb, Nat.zero_add, leb_vlb r fun x hx => h x (List.mem_cons_of_mem _ hx)]
theorem vlb_lt : ∀ l : List Nat, (∀ x ∈ l, x < 256) → vlb l < 2 ^ (8 * l.length)
  | [], _ => by simp [vlb]
  | b :: r, h => by
    have hb := h b (List.mem_cons_self ..)
    have hr := vlb_lt r fun x hx => h x (List.mem_cons_of_mem _ hx)
    rw [List.length_cons, vlb, show 8 * (r.length + 1) = 8 + 8 * r.length by omega, Nat.pow_add]
    have : 2 ^ 8 * (vlb r + 1) ≤ 2 ^ 8 * 2 ^ (8 * r.length) := Nat.mul_le_mul_left _ hr
    omega
theorem vlb_leb : ∀ (k n : Nat), vlb (leb k n) = n % 2 ^ (8 * k)
  | 0, n => by simp [leb, vlb, Nat.mod_one]
  | k + 1, n => by
    rw [leb, vlb, vlb_leb k, show 8 * (k + 1) = 8 + 8 * k by omega, Nat.pow_add, show (2 : Nat) ^ 8 = 256 from rfl]
    rw [Nat.mod_mul]
/-- w bits from a place on. -/
def bitsAt (V at' w : Nat) : Nat := V / 2 ^ at' % 2 ^ w
theorem bits_step (V at' got i s : Nat) (h : at' + got = 8 * i + s) (hs : s < 8) : bitsAt V at' (got + (8 - s)) = bitsAt V at' got + 2 ^ got * (V / 2 ^ (8 * i) % 256 / 2 ^ s) := by
  unfold bitsAt
  rw [Nat.pow_add, Nat.mod_mul, Nat.div_div_eq_div_mul, ← Nat.pow_add, h]
  congr 2
  rw [Nat.pow_add, ← Nat.div_div_eq_div_mul]
  generalize V / 2 ^ (8 * i) = B
  have h8 : 256 = 2 ^ s * 2 ^ (8 - s) := by rw [← Nat.pow_add, show s + (8 - s) = 8 by omega]
  rw [h8, Nat.mod_mul_right_div_self]
theorem bitsAt_lt (V at' w : Nat) : bitsAt V at' w < 2 ^ w := Nat.mod_lt _ (Nat.two_pow_pos _)
theorem or_bits (d x got : Nat) (hd : d < 2 ^ got) (hg : got < 64) : bits .or .u64 (d : Int) (IntKind.u64.wrap ((x : Int) * 2 ^ got)) = (((d + 2 ^ got * x) % 18446744073709551616 : Nat) : Int) := by
  have h64 : 18446744073709551616 = 2 ^ got * 2 ^ (64 - got) := by rw [← Nat.pow_add, show got + (64 - got) = 64 by omega]
  have hd64 : d < 18446744073709551616 := Nat.lt_of_lt_of_le hd (by rw [h64]; exact Nat.le_mul_of_pos_right _ (Nat.two_pow_pos _))
  rw [wrap_shl, bits_or_u64_nat _ _ hd64 (Nat.mod_lt _ (by decide))]
  congr 1
  have e : x * 2 ^ got % 18446744073709551616 = 2 ^ got * (x % 2 ^ (64 - got)) := by
    rw [h64, Nat.mul_comm x, Nat.mul_mod_mul_left]
  rw [e, Nat.or_comm, ← Nat.two_pow_add_eq_or_of_lt hd]
  have hr : x % 2 ^ (64 - got) < 2 ^ (64 - got) := Nat.mod_lt _ (Nat.two_pow_pos _)
  have hx := Nat.mod_add_div x (2 ^ (64 - got))
  generalize x % 2 ^ (64 - got) = r at *
  have h1 : d + 2 ^ got * x = 2 ^ got * r + d + 18446744073709551616 * (x / 2 ^ (64 - got)) := by
    rw [h64]
    have : 2 ^ got * x = 2 ^ got * r + 2 ^ got * 2 ^ (64 - got) * (x / 2 ^ (64 - got)) := by
      rw [Nat.mul_assoc, ← Nat.mul_add, hx]
    omega
  rw [h1, Nat.add_mul_mod_self_left]
  have h2 : 2 ^ got * (r + 1) ≤ 2 ^ got * 2 ^ (64 - got) := Nat.mul_le_mul_left _ hr
  rw [← h64, Nat.mul_add] at h2
  rw [Nat.mod_eq_of_lt (by omega)]
theorem mask_w (d w : Nat) (hw : w ≤ 64) (hd : d < 18446744073709551616) : bits .and .u64 (d : Int) (IntKind.u64.wrap (IntKind.u64.wrap (2 ^ w) - 1)) = ((d % 2 ^ w : Nat) : Int) := by
  have hp : 0 < 2 ^ w := Nat.two_pow_pos _
  have hle : 2 ^ w ≤ 18446744073709551616 := by
    have : 2 ^ w ≤ 2 ^ 64 := Nat.pow_le_pow_right (by decide) hw
    exact this
  have e : IntKind.u64.wrap (IntKind.u64.wrap (2 ^ w) - 1) = ((2 ^ w - 1 : Nat) : Int) := by
    rw [show ((2 : Int) ^ w) = ((2 ^ w : Nat) : Int) from (Int.natCast_pow 2 w).symm, IntKind.wrap_u64, IntKind.wrap_u64]
    omega
  rw [e, bits_and_u64_nat _ _ hd (by omega), Nat.and_two_pow_sub_one_eq_mod]
end Col

theorem shr_u8 (b s : Nat) (hb : b < 256) (hs : s < 8) : ((b : Int) / 2 ^ s) = ((b / 2 ^ s : Nat) : Int) := by rw [Int.natCast_ediv, Int.natCast_pow]; rfl
def GB (V at' w : Nat) (w0 : World) (u v : Value) (wr : World) : Prop := ∃ (got d : Nat), v = .int .i64 (got : Int) ∧ u = .int .u64 (d : Int) ∧ d = bitsAt V at' got % 18446744073709551616 ∧ got ≤ w + 7 ∧ (got = 0 ∨ (at' + got) % 8 = 0) ∧ w0 = wr
set_option maxHeartbeats 2000000 in
theorem getBits_any (A : Option Addr) (K C V at' w : Nat) (hw : w ≤ 64) (hK : K ≤ 100000000) (hat : at' + w ≤ 8 * K) (hV : Hid (V < 2 ^ (8 * K))) (W : World) (HA : Hid (ByAt W A (leb K V))) :
    Calls Tryd.prog 86 #[.slice A K C, .int .i64 (at' : Int), .int .i64 (w : Int)] W fun e w' => e = .returned (.int .u64 (bitsAt V at' w : Nat)) ∧ W = w' := by
  go_enter Tryd.func86, Tryd.ntmps86
  go_wp2
  go_loopw [7, 8] (fun u v wr => GB V at' w W u v wr) (fun _ v _ => w - (intOf v).toNat)
  case atStart => exact ⟨0, 0, rfl, rfl, by unfold bitsAt; simp [Nat.mod_one], by omega, .inl rfl, rfl⟩
  case round =>
    obtain ⟨got, d, rfl, rfl, hd, hgw, hgm, rfl⟩ := hrel
    have HD := Lib.hid hd
    have HGM := Lib.hid hgm
    clear hd hgm
    by_cases hlt : got < w
    · obtain ⟨i, hi⟩ : ∃ i, i = (at' + got) / 8 := ⟨_, rfl⟩
      obtain ⟨s, hs⟩ : ∃ s, s = (at' + got) % 8 := ⟨_, rfl⟩
      have hs8 : s < 8 := by omega
      have his : at' + got = 8 * i + s := by omega
      have hiK : i < K := by omega
      have hiKi : (i : Int) < (K : Int) := by omega
      obtain ⟨b, hb⟩ : ∃ b, b = V / 2 ^ (8 * i) % 256 := ⟨_, rfl⟩
      obtain ⟨hb256, g, off, rfl, -, hc⟩ := HA.out i b (by rw [hb]; exact leb_get K V i hiK)
      obtain ⟨x, hx⟩ : ∃ x, x = b / 2 ^ s := ⟨_, rfl⟩
      have hshr := shr_u8 b s hb256 hs8
      rw [← hx] at hshr
      have hx256 : x < 256 := by rw [hx]; exact Nat.lt_of_le_of_lt (Nat.div_le_self _ _) hb256
      have hdlt : d < 2 ^ got := by rw [HD.out]; exact Nat.lt_of_le_of_lt (Nat.mod_le _ _) (bitsAt_lt V at' got)
      have hor := or_bits d x got hdlt (by omega)
      obtain ⟨d2, hd2⟩ : ∃ d2, d2 = (d + 2 ^ got * x) % 18446744073709551616 := ⟨_, rfl⟩
      rw [← hd2] at hor
      have HD2 : Hid (d2 = bitsAt V at' (got + (8 - s)) % 18446744073709551616) := Lib.hid (by
        rw [bits_step V at' got i s his hs8, ← hb, ← hx, hd2, HD.out, Nat.mod_add_mod])
      obtain ⟨p, hp⟩ : ∃ p, p = at' + got := ⟨_, rfl⟩
      have hpi : (at' : Int) + (got : Int) = (p : Int) := by omega
      have hqi : (p : Int) / 8 = (i : Int) := by omega
      have hqs : (p : Int) % 8 = (s : Int) := by omega
      have hqi2 : (p : Int).tdiv 8 = (i : Int) := by rw [Int.tdiv_eq_ediv_of_nonneg (by omega)]; exact hqi
      have hqs2 : (p : Int).tmod 8 = (s : Int) := by rw [Int.tmod_eq_emod_of_nonneg (by omega)]; exact hqs
      have hp9 : p ≤ 1000000000 := by omega
      have hxw : IntKind.u64.wrap (x : Int) = (x : Int) := by rw [IntKind.wrap_u64]; omega
      have HIS : Hid ((at' + (got + (8 - s))) % 8 = 0) := Lib.hid (by omega)
      obtain ⟨t, ht⟩ : ∃ t, t = 8 - s := ⟨_, rfl⟩
      have hti : (8 : Int) - (s : Int) = (t : Int) := by omega
      rw [← ht] at HD2 HIS
      have ht8 : t ≤ 8 := by omega
      have ht1 : 1 ≤ t := by omega
      have hg64 : (got : Int) < 64 := by omega
      have hs64 : (s : Int) < 64 := by omega
      clear hi hs his hb hx hd2 hp ht hdlt
      go_wp2
      go_roundw
      case rel => exact ⟨got + t, d2, by go_num, rfl, HD2.out, by omega, .inr HIS.out, by trivial⟩
      case measure => simp [intOf]; omega
    · have hd64 : d < 18446744073709551616 := by rw [HD.out]; exact Nat.mod_lt _ (by decide)
      have hmask := mask_w d w hw hd64
      have HM : Hid (d % 2 ^ w = bitsAt V at' w) := Lib.hid (by
        rw [HD.out]
        unfold bitsAt
        have h1 : 2 ^ w ∣ 18446744073709551616 := ⟨2 ^ (64 - w), by rw [← Nat.pow_add, show w + (64 - w) = 64 by omega]⟩
        have h2 : 2 ^ w ∣ 2 ^ got := ⟨2 ^ (got - w), by rw [← Nat.pow_add, show w + (got - w) = got by omega]⟩
        rw [Nat.mod_mod_of_dvd _ h1, Nat.mod_mod_of_dvd _ h2])
      rw [HM.out] at hmask
      have hw64 : (w : Int) ≤ 64 := by omega
      go_wp2
      go_ret
      exact ⟨rfl, rfl⟩
end Go.Proofs.YtpobfgokikfmbaaDoor

set_option linter.unusedSimpArgs false
set_option linter.unusedVariables false
set_option maxRecDepth 8000
namespace Go.Proofs.YtpobfgokikfmbaaDoor
open Go.RowKit Go.WideShapes Col
namespace Col
theorem grp_left {q r : List Nat} {n k : Nat} (h : grp k q = some (n, r)) : r.length ≤ q.length := by
  obtain ⟨-, -, m, -, rfl, -⟩ := grp_lt q k n r h
  rw [List.length_drop]; omega
theorem uP_left {most n : Nat} {q r : List Nat} (h : uP most q = some (n, r)) : r.length ≤ q.length := grp_left (uP_some h).1
theorem zP_left {x : Int} {q r : List Nat} (h : zP q = some (x, r)) : r.length ≤ q.length := by
  obtain ⟨n, h1, -⟩ := zP_some h
  exact grp_left h1
theorem uz_wf {n : Nat} (h : n < 18446744073709551616) : Wf64 (uz n) := by
  unfold uz Wf64; split <;> omega
theorem zP_wf {x : Int} {q r : List Nat} (h : zP q = some (x, r)) (hq : ∀ x ∈ q, x < 256) : Wf64 x := by
  obtain ⟨n, h1, rfl⟩ := zP_some h
  exact uz_wf (grp_u64 h1 hq)
theorem wrap64_wf' (n : Int) : Wf64 (wrap64 n) := by unfold Wf64 wrap64; omega
def dstep (s : Int × List Nat) : Option (Int × (Int × List Nat)) := (zP s.2).map fun p => (wrap64 (s.1 + p.1), (wrap64 (s.1 + p.1), p.2))
end Col
theorem Rd.high {w w' : World} {g : Nat} {q : List Nat} {S : Nat → Prop} (h : Rd w g q) (hk : Kept S w w') (hS : ∀ k, S k → g < k) : Rd w' g q := by
  obtain ⟨A, C, h⟩ := h
  exact ⟨A, C, h.keep hk (fun e => by have := hS g e; omega) fun a ha h0 hs => by have := h.low a ha h0; have := hS _ hs; omega⟩
theorem Rd.glt {w : World} {g : Nat} {q : List Nat} (h : Rd w g q) : g < w.heap.size := by obtain ⟨A, C, h⟩ := h; exact h.lt
/-- A reader, and how many bytes are left at most. -/
def RdM (g : Nat) (q : List Nat) (w : World) : Prop := Rd w g q ∧ q.length ≤ 1099511627776
theorem plain_step (g : Nat) (q : List Nat) (w1 : World) (h : RdM g q w1) : Calls Tryd.prog 70 #[.pointer (some ⟨g, 0, none⟩)] w1 (StepEnds g (Only g) (RdM g) (zP q) w1) := by
  rcases hz : zP q with _ | ⟨x, r⟩
  · exact int_no g q (Lib.hid hz) q.length (Lib.hid rfl) h.2 w1 (Lib.hid h.1)
  · refine (int_yes g x q r (Lib.hid hz) (by have := h.2; omega) w1 (Lib.hid h.1)).mono ?_
    rintro e w' ⟨he, h1, h2⟩
    exact ⟨he, zP_wf hz h.1.lt, ⟨h1, Nat.le_trans (zP_left hz) h.2⟩, h2⟩
theorem plain_any (g : Nat) (n : Nat) (hn : n ≤ 4096) (q : List Nat) (w : World) (H : Hid (RdM g q w)) :
    Calls Tryd.prog 69 #[.int .i64 (n : Int), .func (.func 70) #[.pointer (some ⟨g, 0, none⟩)] #[]] w (ListEnds g (Only g) (RdM g) (runS zP n q) w) := by
  refine times_any zP 70 #[.pointer (some ⟨g, 0, none⟩)] #[] (fun _ _ => by first | rfl | kernel_rfl) n hn g (Only g) (RdM g) w (Lib.hid fun k hk => ?_) (Lib.hid fun s w1 w2 h hk => ⟨h.1.high hk fun k hk => ?_, h.2⟩) q (Lib.hid fun _ _ s w1 _ _ h _ => plain_step g s w1 h) H
  · have hk : k = g := hk
    subst hk; exact H.out.1.glt
  · exact Nat.lt_of_lt_of_le H.out.1.glt hk

/-- What readDelta's function stands on. -/
structure DS (g ah bx : Nat) (s : Int × List Nat) (w : World) : Prop where
  rd : RdM g s.2 w
  ahead : w.heap[ah]? = some (.cells #[.int .i64 s.1] 2 (0, 0))
  box : w.heap[bx]? = some (.cells #[.pointer (some ⟨g, 0, none⟩)] 40 (0, 0))
  n1 : g < ah
  n2 : g < bx
  n3 : ah ≠ bx
theorem DS.keep {g ah bx : Nat} {s : Int × List Nat} {w w' : World} {S : Nat → Prop} (h : DS g ah bx s w) (hk : Kept S w w') (hS : ∀ k, S k → w.heap.size ≤ k ∨ (g < k ∧ k ≠ ah ∧ k ≠ bx)) : DS g ah bx s w' := by
  have hg := h.rd.1.glt
  have ha := (Array.getElem?_eq_some_iff.1 h.ahead).1
  have hb := (Array.getElem?_eq_some_iff.1 h.box).1
  exact ⟨⟨h.rd.1.high hk fun k hs => by have := hS k hs; omega, h.rd.2⟩, hk.heap h.ahead fun e => by have := hS _ e; omega, hk.heap h.box fun e => by have := hS _ e; omega, h.n1, h.n2, h.n3⟩
abbrev Two (g ah : Nat) : Nat → Prop := fun k => k = g ∨ k = ah
theorem one_two {g ah : Nat} {w w' : World} (h : Kept (Only g) w w') : Kept (Two g ah) w w' := h.mono fun k hk => .inl (.inl hk)
theorem DS.c0 {g ah bx : Nat} {s : Int × List Nat} {w : World} (h : DS g ah bx s w) : w.cell? ⟨ah, 0, none⟩ = some (.int .i64 s.1) := by rw [cell_of_row _ _ _ _ _ _ h.ahead]; rfl
theorem DS.cb {g ah bx : Nat} {s : Int × List Nat} {w : World} (h : DS g ah bx s w) : w.cell? ⟨bx, 0, none⟩ = some (.pointer (some ⟨g, 0, none⟩)) := by rw [cell_of_row _ _ _ _ _ _ h.box]; rfl
theorem DS.blt {g ah bx : Nat} {s : Int × List Nat} {w : World} (h : DS g ah bx s w) : bx < w.heap.size := (Array.getElem?_eq_some_iff.1 h.box).1
theorem DS.alt {g ah bx : Nat} {s : Int × List Nat} {w : World} (h : DS g ah bx s w) : ah < w.heap.size := (Array.getElem?_eq_some_iff.1 h.ahead).1
theorem DS.drew {g ah bx : Nat} {s : Int × List Nat} {w : World} (h : DS g ah bx s w) : DS g ah bx s w.drew := h.keep (S := fun _ => False) ((Kept.refl _ _).drew) fun k hk => hk.elim
/-- Behind the reading, and the writing. -/
theorem DS.step {g ah bx : Nat} {a x : Int} {q r : List Nat} {w w1 : World} (h : DS g ah bx (a, q) w) (hr : Rd w1 g r) (hl : r.length ≤ q.length) (hk : Kept (Only g) w w1) : DS g ah bx (x, r) (w1.setCell ⟨ah, 0, none⟩ (.int .i64 x)) ∧ Kept (Two g ah) w (w1.setCell ⟨ah, 0, none⟩ (.int .i64 x)) := by
  have hka : Kept (fun k => k = ah) w1 (w1.setCell ⟨ah, 0, none⟩ (.int .i64 x)) := (Kept.refl _ _).setCell _ _ (.inl rfl)
  refine ⟨⟨⟨hr.high hka fun k hk => by have hk : k = ah := hk; have := h.n1; omega, Nat.le_trans hl h.rd.2⟩, ?_, (hka.heap (hk.heap h.box fun e => by have e : bx = g := e; have := h.n2; omega) fun e => h.n3 e.symm), h.n1, h.n2, h.n3⟩, (one_two hk).setCell _ _ (.inl (.inr rfl))⟩
  have h1 := hk.heap h.ahead fun e => by have e : ah = g := e; have := h.n1; omega
  rw [World.setCell]; simp [Array.getElem?_modify, h1]
theorem gone_two {g ah bx : Nat} {s : Int × List Nat} {w w1 : World} (h1 : Gone w1 g) (h2 : Kept (Only g) w w1) : Gone w1 g ∧ Kept (Two g ah) w w1 := ⟨h1, one_two h2⟩
set_option maxHeartbeats 2000000 in
theorem delta_step (g ah bx : Nat) (a : Int) (q : List Nat) (w : World) (H : Hid (DS g ah bx (a, q) w)) :
    Calls Tryd.prog 83 #[.pointer (some ⟨ah, 0, none⟩), .pointer (some ⟨bx, 0, none⟩)] w (StepEnds g (Two g ah) (DS g ah bx) (dstep (a, q)) w) := by
  have HD := Lib.hid H.out.drew
  have HKD : Hid (Kept (Two g ah) w w.drew) := Lib.hid ((Kept.refl _ _).drew)
  have HAL := Lib.hid H.out.alt
  have HBL := Lib.hid H.out.blt
  have HCB := Lib.hid H.out.cb
  have HCA := Lib.hid H.out.c0
  have HN := Lib.hid (show ¬ Only g bx from fun e => by have e : bx = g := e; have := H.out.n2; omega)
  have HN2 := Lib.hid (show ¬ Two g ah bx from fun e => by have := H.out.n2; have := H.out.n3; rcases e with e | e <;> omega)
  have hnag := H.out.n1
  rcases hz : zP q with _ | ⟨x, r⟩
  · have HZ := Lib.hid hz
    have HE : Hid (dstep (a, q) = none) := Lib.hid (by unfold dstep; rw [hz]; rfl)
    rw [HE.out]
    clear hz HE
    go_enter Tryd.func83, Tryd.ntmps83
    go_upto_region 1 with fail
    refine wp_region_held_drew (S := fun w' => Kept (Two g ah) w w') (by kernel_rfl) HKD.out (fun hHeld => ?_)
    refine wpAnyH_take (i := 1) (v := .pointer (some ⟨g, 0, none⟩)) rfl (by kernel_rfl) (by kernel_rfl) (by kernel_rfl) (fun _ _ _ h => h) (Or.inl ⟨by rfl, fun w hw => by have hc : w.cell? ⟨bx, 0, none⟩ = some (.pointer (some ⟨g, 0, none⟩)) := (hw.cell (p := ⟨bx, 0, none⟩) HBL.out HN2.out).trans HCB.out; go_simp⟩) hHeld ?_
    try dsimp only
    try simp only [Act.put, List.getElem_toArray, List.getElem_cons_zero, List.getElem_cons_succ, List.setIfInBounds_toArray, List.set_cons_zero, List.set_cons_succ]
    refine wpAnyH_ready (rs := [0, 2]) (by kernel_rfl) (by simp) (AllReadyH.cons rfl (fun K hK => ?_) (AllReadyH.cons rfl (fun K hK => ?_) AllReadyH.nil))
    · skip
      have ca : (w.drew).cell? ⟨ah, 0, none⟩ = some (.int .i64 a) := HCA.out
      go_simp
      refine hK.out _ _ HKD.out (fun hHeld => ?_)
      clear hK K
      try dsimp only
      try simp only [Act.put, List.getElem_toArray, List.getElem_cons_zero, List.getElem_cons_succ, List.setIfInBounds_toArray, List.set_cons_zero, List.set_cons_succ]
      refine wpAnyH_ready (rs := [2]) (by kernel_rfl) (by simp) (AllReadyH.cons rfl (fun K hK => ?_) AllReadyH.nil)
      go_simp
      refine (int_no g q HZ q.length (Lib.hid rfl) H.out.rd.2 _ (Lib.hid HD.out.rd.1)).mono ?_
      rintro e w1 ⟨rfl, h1, h2⟩
      exact ⟨rfl, rfl, h1, one_two (((Kept.refl (Only g) w).drew).trans h2)⟩
    · skip
      go_simp
      refine (int_no g q HZ q.length (Lib.hid rfl) H.out.rd.2 _ (Lib.hid HD.out.rd.1)).mono ?_
      rintro e w1 ⟨rfl, h1, h2⟩
      exact ⟨rfl, rfl, h1, one_two (((Kept.refl (Only g) w).drew).trans h2)⟩
  · have HZ := Lib.hid hz
    have HE : Hid (dstep (a, q) = some (wrap64 (a + x), (wrap64 (a + x), r))) := Lib.hid (by unfold dstep; rw [hz]; rfl)
    have HLE := Lib.hid (zP_left hz)
    rw [HE.out]
    clear hz HE
    go_enter Tryd.func83, Tryd.ntmps83
    go_upto_region 1 with fail
    refine wp_region_held_drew (S := fun w' => Kept (Two g ah) w w') (by kernel_rfl) HKD.out (fun hHeld => ?_)
    refine wpAnyH_take (i := 1) (v := .pointer (some ⟨g, 0, none⟩)) rfl (by kernel_rfl) (by kernel_rfl) (by kernel_rfl) (fun _ _ _ h => h) (Or.inl ⟨by rfl, fun w hw => by have hc : w.cell? ⟨bx, 0, none⟩ = some (.pointer (some ⟨g, 0, none⟩)) := (hw.cell (p := ⟨bx, 0, none⟩) HBL.out HN2.out).trans HCB.out; go_simp⟩) hHeld ?_
    try dsimp only
    try simp only [Act.put, List.getElem_toArray, List.getElem_cons_zero, List.getElem_cons_succ, List.setIfInBounds_toArray, List.set_cons_zero, List.set_cons_succ]
    refine wpAnyH_ready (rs := [0, 2]) (by kernel_rfl) (by simp) (AllReadyH.cons rfl (fun K hK => ?_) (AllReadyH.cons rfl (fun K hK => ?_) AllReadyH.nil))
    · skip
      have ca : (w.drew).cell? ⟨ah, 0, none⟩ = some (.int .i64 a) := HCA.out
      go_simp
      refine hK.out _ _ HKD.out (fun hHeld => ?_)
      clear hK K
      try dsimp only
      try simp only [Act.put, List.getElem_toArray, List.getElem_cons_zero, List.getElem_cons_succ, List.setIfInBounds_toArray, List.set_cons_zero, List.set_cons_succ]
      refine wpAnyH_ready (rs := [2]) (by kernel_rfl) (by simp) (AllReadyH.cons rfl (fun K hK => ?_) AllReadyH.nil)
      go_simp
      refine (int_yes g x q r HZ (by have := H.out.rd.2; simp at this; omega) _ (Lib.hid HD.out.rd.1)).mono ?_
      rintro e w1 ⟨rfl, h1, h2⟩
      have HR1 := Lib.hid h1; have HK1 : Hid (Kept (Only g) w w1) := Lib.hid (((Kept.refl (Only g) w).drew).trans h2); clear h1 h2
      refine hK.out _ _ (one_two HK1.out) (fun hHeld => ?_)
      clear hK K
      try dsimp only
      try simp only [Act.put, List.getElem_toArray, List.getElem_cons_zero, List.getElem_cons_succ, List.setIfInBounds_toArray, List.set_cons_zero, List.set_cons_succ]
      have fa : w1.frozen? ⟨ah, 0, none⟩ = false := row_frozen (HK1.out.heap H.out.ahead fun e => by have e : ah = g := e; omega) 0
      have ca1 : w1.cell? ⟨ah, 0, none⟩ = some (.int .i64 a) := (HK1.out.cell (p := ⟨ah, 0, none⟩) HAL.out (fun e => by have e : ah = g := e; omega)).trans HCA.out
      refine wpAnyH_ready (rs := [3]) (by kernel_rfl) (by simp) (AllReadyH.cons rfl (fun K hK => ?_) AllReadyH.nil)
      go_simp
      rw [show IntKind.i64.wrap (a + x) = wrap64 (a + x) from by unfold wrap64; rw [IntKind.wrap_i64]]
      refine hK.out _ _ (one_two HK1.out) (fun hHeld => ?_)
      clear hK K
      try dsimp only
      try simp only [Act.put, List.getElem_toArray, List.getElem_cons_zero, List.getElem_cons_succ, List.setIfInBounds_toArray, List.set_cons_zero, List.set_cons_succ]
      refine wpAnyH_ready (rs := [4]) (by kernel_rfl) (by simp) (AllReadyH.cons rfl (fun K hK => ?_) AllReadyH.nil)
      go_simp
      have HST := Lib.hid (H.out.step (x := wrap64 (a + x)) HR1.out HLE.out HK1.out)
      refine hK.out _ _ HST.out.2 (fun hHeld => ?_)
      clear hK K
      try dsimp only
      try simp only [Act.put, List.getElem_toArray, List.getElem_cons_zero, List.getElem_cons_succ, List.setIfInBounds_toArray, List.set_cons_zero, List.set_cons_succ]
      refine wpAnyH_done (by kernel_rfl) ?_ _
      have ca9 := HST.out.1.c0
      go_wp2
      go_ret
      exact ⟨rfl, wrap64_wf' _, HST.out.1, HST.out.2⟩
    · skip
      go_simp
      refine (int_yes g x q r HZ (by have := H.out.rd.2; simp at this; omega) _ (Lib.hid HD.out.rd.1)).mono ?_
      rintro e w1 ⟨rfl, h1, h2⟩
      have HR1 := Lib.hid h1; have HK1 : Hid (Kept (Only g) w w1) := Lib.hid (((Kept.refl (Only g) w).drew).trans h2); clear h1 h2
      refine hK.out _ _ (one_two HK1.out) (fun hHeld => ?_)
      clear hK K
      try dsimp only
      try simp only [Act.put, List.getElem_toArray, List.getElem_cons_zero, List.getElem_cons_succ, List.setIfInBounds_toArray, List.set_cons_zero, List.set_cons_succ]
      refine wpAnyH_ready (rs := [0]) (by kernel_rfl) (by simp) (AllReadyH.cons rfl (fun K hK => ?_) AllReadyH.nil)
      have ca : (w1).cell? ⟨ah, 0, none⟩ = some (.int .i64 a) := (HK1.out.cell (p := ⟨ah, 0, none⟩) HAL.out (fun e => by have e : ah = g := e; omega)).trans HCA.out
      go_simp
      refine hK.out _ _ (one_two HK1.out) (fun hHeld => ?_)
      clear hK K
      try dsimp only
      try simp only [Act.put, List.getElem_toArray, List.getElem_cons_zero, List.getElem_cons_succ, List.setIfInBounds_toArray, List.set_cons_zero, List.set_cons_succ]
      have fa : w1.frozen? ⟨ah, 0, none⟩ = false := row_frozen (HK1.out.heap H.out.ahead fun e => by have e : ah = g := e; omega) 0
      have ca1 : w1.cell? ⟨ah, 0, none⟩ = some (.int .i64 a) := (HK1.out.cell (p := ⟨ah, 0, none⟩) HAL.out (fun e => by have e : ah = g := e; omega)).trans HCA.out
      refine wpAnyH_ready (rs := [3]) (by kernel_rfl) (by simp) (AllReadyH.cons rfl (fun K hK => ?_) AllReadyH.nil)
      go_simp
      rw [show IntKind.i64.wrap (a + x) = wrap64 (a + x) from by unfold wrap64; rw [IntKind.wrap_i64]]
      refine hK.out _ _ (one_two HK1.out) (fun hHeld => ?_)
      clear hK K
      try dsimp only
      try simp only [Act.put, List.getElem_toArray, List.getElem_cons_zero, List.getElem_cons_succ, List.setIfInBounds_toArray, List.set_cons_zero, List.set_cons_succ]
      refine wpAnyH_ready (rs := [4]) (by kernel_rfl) (by simp) (AllReadyH.cons rfl (fun K hK => ?_) AllReadyH.nil)
      go_simp
      have HST := Lib.hid (H.out.step (x := wrap64 (a + x)) HR1.out HLE.out HK1.out)
      refine hK.out _ _ HST.out.2 (fun hHeld => ?_)
      clear hK K
      try dsimp only
      try simp only [Act.put, List.getElem_toArray, List.getElem_cons_zero, List.getElem_cons_succ, List.setIfInBounds_toArray, List.set_cons_zero, List.set_cons_succ]
      refine wpAnyH_done (by kernel_rfl) ?_ _
      have ca9 := HST.out.1.c0
      go_wp2
      go_ret
      exact ⟨rfl, wrap64_wf' _, HST.out.1, HST.out.2⟩

end Go.Proofs.YtpobfgokikfmbaaDoor

set_option linter.unusedSimpArgs false
set_option linter.unusedVariables false
set_option maxRecDepth 8000
namespace Go.Proofs.YtpobfgokikfmbaaDoor
open Go.RowKit Go.WideShapes Col
namespace Col
def rdDelta (n : Nat) (q : List Nat) : Option (List Int × List Nat) := (runS dstep n (0, q)).map fun p => (p.1, p.2.2)
/-- Numbers read by their runs. -/
def rruns : Nat → List Nat → Option (List Int × List Nat)
  | 0, q => some ([], q)
  | m + 1, q => (zP q).bind fun p => (uP m p.2).bind fun r => (rruns (m - r.1) r.2).map fun t => (List.replicate (r.1 + 1) p.1 ++ t.1, t.2)
termination_by m => m
decreasing_by omega
theorem rruns_zero (q : List Nat) : rruns 0 q = some ([], q) := by rw [rruns]
theorem rruns_no1 {m : Nat} {q : List Nat} (h : zP q = none) : rruns (m + 1) q = none := by rw [rruns, h]; rfl
theorem rruns_no2 {m : Nat} {q r : List Nat} {x : Int} (h : zP q = some (x, r)) (h2 : uP m r = none) : rruns (m + 1) q = none := by rw [rruns, h]; simp [h2]
theorem rruns_yes {m k : Nat} {q r r2 : List Nat} {x : Int} (h : zP q = some (x, r)) (h2 : uP m r = some (k, r2)) : rruns (m + 1) q = (rruns (m - k) r2).map fun t => (List.replicate (k + 1) x ++ t.1, t.2) := by rw [rruns, h]; simp [h2]
end Col
theorem OwnI.more {w : World} {B n cap : Nat} {A : Option Addr} {l : List Int} {B' : Nat} (h : OwnI w B A n cap l) (hB : B' ≤ B) : OwnI w B' A n cap l := by
  refine ⟨⟨h.1.1, ?_⟩, h.2⟩
  rcases h.1.2 with h1 | ⟨g, cap', cur, h1, hb, h2⟩
  · exact .inl h1
  · exact .inr ⟨g, cap', cur, h1, Nat.le_trans hB hb, h2⟩
theorem ListEnds.lift {σ : Type} {g : Nat} {Sw : Nat → Prop} {St : σ → World → Prop} {o : Option (List Int × σ)} {w w2 w' : World} {e : Ending} (h : ListEnds g Sw St o w2 e w') (hb : Kept (Only g) w w2) (f : σ → List Nat) (hSt : ∀ s w', St s w' → RdM g (f s) w') (hS : ∀ k, Sw k → k = g ∨ w.heap.size ≤ k) :
    ListEnds g (Only g) (RdM g) (o.map fun p => (p.1, f p.2)) w e w' := by
  rcases o with _ | p
  · obtain ⟨h1, h2, h3⟩ := h
    exact ⟨h1, h2, hb.trans' h3 hS⟩
  · obtain ⟨⟨A, n, cap, he, ho⟩, h2, h3⟩ := h
    exact ⟨⟨A, n, cap, he, ho.more hb.size⟩, hSt _ _ h2, hb.trans' h3 hS⟩
set_option maxHeartbeats 2000000 in
theorem readDelta_any (g : Nat) (n : Nat) (hn : n ≤ 4096) (q : List Nat) (w : World) (H : Hid (RdM g q w)) :
    Calls Tryd.prog 71 #[.pointer (some ⟨g, 0, none⟩), .int .i64 (n : Int)] w (ListEnds g (Only g) (RdM g) (rdDelta n q) w) := by
  obtain ⟨w2, hw2⟩ : ∃ w2, w2 = (w.alloc (.cells #[.pointer (some ⟨g, 0, none⟩)] 40)).alloc (.cells #[.int .i64 0] 2) := ⟨_, rfl⟩
  have HW := Lib.hid hw2
  have HB : Hid (Below w.heap.size w w2) := Lib.hid (by rw [hw2]; exact ((Below.refl _ _).alloc (Nat.le_refl _) _).alloc (by simp) _)
  have hgl := H.out.1.glt
  have hsz : w2.heap.size = w.heap.size + 2 := by rw [hw2]; simp
  have HDS : Hid (DS g (w.heap.size + 1) w.heap.size (0, q) w2) := Lib.hid ⟨⟨H.out.1.high (S := fun _ => False) (Kept.of_below HB.out) fun k hk => hk.elim, H.out.2⟩, by rw [hw2]; exact heap_alloc2_new w _ _, by rw [hw2]; exact heap_alloc2_old w _ _, by omega, by omega, by omega⟩
  have ht := times_any dstep 83 #[] #[.pointer (some ⟨w.heap.size + 1, 0, none⟩), .pointer (some ⟨w.heap.size, 0, none⟩)] (fun _ _ => by first | rfl | kernel_rfl) n hn g (Two g (w.heap.size + 1)) (DS g (w.heap.size + 1) w.heap.size) w2
    (Lib.hid fun k hk => by rcases hk with hk | hk <;> omega)
    (Lib.hid fun s w1 w3 h hk => h.keep hk fun k hk => by have := h.blt; have := h.alt; exact .inr (by omega))
    (0, q) (Lib.hid fun _ _ s w1 _ _ h _ => delta_step g _ _ s.1 s.2 w1 (Lib.hid h)) HDS
  have HT := Lib.hid ht
  clear ht hw2
  rcases ho : rdDelta n q with _ | ⟨xs, r⟩
  · have HO := Lib.hid ho
    clear ho
    go_enter Tryd.func71, Tryd.ntmps71
    go_wp2_with (go_at_call 69; rw [← HW.out]; refine (HT.out).mono ?_; intro e w3 h9; have h8 := h9.lift (Kept.of_below HB.out) (fun s => s.2) (fun s w' h => h.rd) (fun k hk => by rcases hk with hk | hk <;> omega); change ListEnds g (Only g) (RdM g) (rdDelta n q) w e w3 at h8; clear h9; rw [HO.out] at h8; obtain ⟨rfl, h1, h2⟩ := h8)
    exact ⟨rfl, rfl, h1, h2⟩
  · have HO := Lib.hid ho
    clear ho
    go_enter Tryd.func71, Tryd.ntmps71
    go_wp2_with (go_at_call 69; rw [← HW.out]; refine (HT.out).mono ?_; intro e w3 h9; have h8 := h9.lift (Kept.of_below HB.out) (fun s => s.2) (fun s w' h => h.rd) (fun k hk => by rcases hk with hk | hk <;> omega); change ListEnds g (Only g) (RdM g) (rdDelta n q) w e w3 at h8; clear h9; rw [HO.out] at h8; obtain ⟨⟨A, n', cap, rfl, ho'⟩, h1, h2⟩ := h8; have HO' := Lib.hid ho'; have H1 := Lib.hid h1; have H2 := Lib.hid h2; clear ho' h1 h2)
    go_ret
    exact ⟨⟨A, n', cap, rfl, HO'.out⟩, H1.out, H2.out⟩

theorem Kept.of_grown {w w' : World} {r : Option Nat} (h : w.grownBy w' r) : Kept (fun k => r = some k) w w' := ⟨h.os, h.tape, h.output, h.size, fun k hk hn => h.block k hk fun e => hn (by first | exact e | exact e.symm)⟩
theorem RdM.high {g : Nat} {q : List Nat} {w w' : World} {S : Nat → Prop} (h : RdM g q w) (hk : Kept S w w') (hS : ∀ k, S k → g < k) : RdM g q w' := ⟨h.1.high hk hS, h.2⟩
theorem rep_snoc (l : List Int) (j : Nat) (x : Int) : (l ++ List.replicate j x) ++ [x] = l ++ List.replicate (j + 1) x := by
  rw [List.append_assoc]; congr 1
  rw [List.replicate_succ']
def RU (g n : Nat) (w : World) (q : List Nat) (v : Value) (wr : World) : Prop := ∃ (l : List Int) (L : Nat) (A : Option Addr) (cap : Nat) (q' : List Nat), v = .slice A L cap ∧ L = l.length ∧ L ≤ n ∧ OwnI wr w.heap.size A L cap l ∧ RdM g q' wr ∧ Kept (Only g) w wr ∧ rruns n q = (rruns (n - L) q').map fun t => (l ++ t.1, t.2)
def RV (g n : Nat) (w : World) (l : List Int) (L : Nat) (x : Int) (q : List Nat) (R : Nat) (u v : Value) (wr : World) : Prop := ∃ (j M : Nat) (A : Option Addr) (cap : Nat), j ≤ R ∧ v = .int .i64 (j : Int) ∧ u = .slice A M cap ∧ M = L + j ∧ OwnI wr w.heap.size A M cap (l ++ List.replicate j x) ∧ RdM g q wr ∧ Kept (Only g) w wr
set_option maxHeartbeats 4000000 in
theorem readRuns_any (g : Nat) (n : Nat) (hn : n ≤ 4096) (q : List Nat) (w : World) (H : Hid (RdM g q w)) :
    Calls Tryd.prog 72 #[.pointer (some ⟨g, 0, none⟩), .int .i64 (n : Int)] w (ListEnds g (Only g) (RdM g) (rruns n q) w) := by
  obtain ⟨iu, hiu, hz0, hz1, hz2⟩ := info_parts infoI64'
  have hzb : iu.bytes * n ≤ 281474976710656 := by rw [hz2]; omega
  have hnm : n ≤ maxLen := by unfold maxLen; omega
  have hgl := H.out.1.glt
  go_enter Tryd.func72, Tryd.ntmps72
  go_wp2_with (refine wpList_make_own _ rfl (.const (.int .i64 0)) (.tmp 8) 50 rfl w.heap.size 2 iu (.int .i64 0) 1 Tryd.underlying50 hiu hz0 hz1 .i64 .i64 _ n rfl rfl rfl hzb hnm (Nat.le_refl _) ?_; intro w1 own hgr; have HO : Hid (OwnI w1 w.heap.size (some ⟨w.heap.size, 0, none⟩) 0 n []) := Lib.hid ⟨own, fun x hx => by cases hx⟩; have HK : Hid (Kept (Only g) w w1) := Lib.hid ((Kept.of_grown hgr).mono fun k hk => by cases hk); have HRD : Hid (RdM g q w1) := Lib.hid (H.out.high (Kept.of_grown hgr) fun k hk => by cases hk); clear own hgr)
  have HST : Hid (RU g n w q (.slice (some ⟨w.heap.size, 0, none⟩) 0 n) w1) := Lib.hid ⟨[], 0, _, _, q, rfl, rfl, Nat.zero_le _, HO.out, HRD.out, HK.out, by
    rw [Nat.sub_zero]; rcases rruns n q with _ | t
    · rfl
    · simp⟩
  obtain ⟨b, hb⟩ : ∃ b, b = w.heap.size := ⟨_, rfl⟩
  rw [← hb] at HST ⊢
  have HBE := Lib.hid hb
  clear HO HK HRD hb
  go_loopw [5] (fun v wr => RU g n w q v wr) (fun v _ => n - lenOfS v)
  case atStart => exact HST.out
  case round =>
    obtain ⟨l, L, A, cap, q', rfl, hL, hLn, ho, hrd, hk, hrr⟩ := hrel
    have HO := Lib.hid ho; have HRD := Lib.hid hrd; have HK := Lib.hid hk; have HRR := Lib.hid hrr; have HL := Lib.hid hL
    clear ho hrd hk hrr hL HST
    by_cases hlt : L < n
    · obtain ⟨M, hM⟩ : ∃ M, n - L = M + 1 := ⟨n - L - 1, by omega⟩
      have hd1 : (n : Int) - (L : Int) = ((M + 1 : Nat) : Int) := by omega
      have hd2 : ((M + 1 : Nat) : Int) - 1 = (M : Int) := by omega
      have hM96 : M ≤ 4096 := by omega
      have hmw : IntKind.u64.wrap (M : Int) = (M : Int) := by rw [IntKind.wrap_u64]; omega
      have hd3 : (n : Int) - (L : Int) - 1 = (M : Int) := by omega
      rw [hM] at HRR
      rcases hz : zP q' with _ | ⟨x, r⟩
      · have HN : Hid (rruns n q = none) := Lib.hid (by rw [HRR.out, rruns_no1 hz]; rfl)
        have HI := Lib.hid (int_no g q' (Lib.hid hz) q'.length (Lib.hid rfl) HRD.out.2 wr (Lib.hid HRD.out.1))
        clear hz
        go_wp2_with (go_at_call 70; (with_reducible refine (HI.out).mono ?_); rintro e w2 ⟨rfl, h1, h2⟩)
        rw [HN.out]
        exact ⟨rfl, rfl, h1, HK.out.trans h2⟩
      · have hI := int_yes g x q' r (Lib.hid hz) (by have := HRD.out.2; omega) wr (Lib.hid HRD.out.1)
        have HI := Lib.hid hI
        have HWX := Lib.hid (zP_wf hz HRD.out.1.lt)
        have HLR := Lib.hid (Nat.le_trans (zP_left hz) HRD.out.2)
        clear hI
        rcases hu : uP M r with _ | ⟨k, r2⟩
        · have HN : Hid (rruns n q = none) := Lib.hid (by rw [HRR.out, rruns_no2 hz hu]; rfl)
          have HU := Lib.hid hu
          clear hz hu
          go_wp2_with (first
            | (go_at_call 70; (with_reducible refine (HI.out).mono ?_); rintro e w2 hy; obtain ⟨rfl, HR1, HK1⟩ := Yes.rd hy; clear hy)
            | (go_at_call 66; (refine (uint_no g M r HU r.length (Lib.hid rfl) HLR.out _ HR1).mono ?_); rintro e w3 ⟨rfl, h1, h2⟩))
          rw [HN.out]
          exact ⟨rfl, rfl, h1, (HK.out.trans HK1.out).trans h2⟩
        · have HU := Lib.hid hu
          have HN : Hid (rruns n q = (rruns (M - k) r2).map fun t => (l ++ List.replicate (k + 1) x ++ t.1, t.2)) := Lib.hid (by
            rw [HRR.out, rruns_yes hz hu, Option.map_map]; congr 1; funext t; simp)
          have hkM := (uP_some hu).2
          have HLR2 := Lib.hid (Nat.le_trans (uP_left hu) HLR.out)
          obtain ⟨R, hR⟩ : ∃ R, R = k + 1 := ⟨_, rfl⟩
          have hRi : (1 : Int) + (k : Int) = (R : Int) := by omega
          have hki : IntKind.i64.wrap (k : Int) = (k : Int) := by rw [IntKind.wrap_i64]; omega
          rw [← hR] at HN
          have hLR : L + R ≤ n := by omega
          have hR1 : 1 ≤ R := by omega
          have HSUB : Hid (n - (L + R) = M - k) := Lib.hid (by omega)
          clear hz hu hR
          go_wp2_with (first
            | (go_at_call 70; (with_reducible refine (HI.out).mono ?_); rintro e w2 hy; obtain ⟨rfl, HR1, HK1⟩ := Yes.rd hy; clear hy)
            | (go_at_call 66; (refine (uint_yes g M k r r2 HU (by have := HLR.out; omega) _ HR1).mono ?_); rintro e w3 hy; obtain ⟨rfl, HR2, HK2⟩ := Yes.rd hy; clear hy))
          have HKA : Hid (Kept (Only g) wr w3) := Lib.hid (HK1.out.trans HK2.out)
          have HO3 : Hid (OwnI w3 w.heap.size A L cap l) := Lib.hid ⟨HO.out.1.kept (row := some g) ⟨HKA.out.os, HKA.out.tape, HKA.out.output, HKA.out.size, fun k hk' hn => HKA.out.block k hk' (fun e => hn (by rw [show k = g from e]))⟩ (by
            have hb := HO.out.base
            rcases A with _ | a
            · simp [Value.ownBlock]
            · have := hb a.block rfl
              simp [Value.ownBlock]; omega), HO.out.2⟩
          have HV : Hid (RV g n w l L x r2 R (.slice A L cap) (.int .i64 0) w3) := Lib.hid ⟨0, L, A, cap, Nat.zero_le _, rfl, rfl, rfl, by simpa using HO3.out, ⟨HR2.out, HLR2.out⟩, HK.out.trans HKA.out⟩
          clear HI HR1 HK1 HR2 HK2 HKA HO3 HO HRD hd1 hd2 hd3 hmw hki
          go_loopw [5, 27] (fun u v wk => RV g n w l L x r2 R u v wk) (fun _ v _ => R - (intOf v).toNat)
          case atStart => exact HV.out
          case round =>
            obtain ⟨j, N, A2, c2, hj, rfl, rfl, hN, ho, hrd, hk⟩ := hrel
            have HO2 := Lib.hid ho; have HRD2 := Lib.hid hrd; have HK2 := Lib.hid hk
            have HNE := Lib.hid hN
            have hN4 : N ≤ 4096 := by omega
            clear ho hrd hk HV hN
            by_cases hjR : j < R
            · have HAX := Lib.hid (is_one wr x HWX.out)
              have HOX := Lib.hid (HO2.out.keep ((Below.refl _ _).alloc (Nat.le_refl _) (.cells #[.int .i64 x] 2)))
              have HBB := Lib.hid ((Below.refl wr.heap.size wr).alloc (Nat.le_refl _) (.cells #[.int .i64 x] 2))
              have hbs : w.heap.size ≤ (wr.alloc (.cells #[.int .i64 x] 2)).heap.size := Nat.le_trans HK2.out.size HBB.out.size
              go_wp2_with (refine wpList_append_is rfl (.tmp 29) (.tmp 31) rfl w.heap.size A2 N c2 _ rfl HOX.out ⟨wr.heap.size, 0, none⟩ 1 1 [x] rfl rfl HAX.out (by omega) hbs ?_; intro A3 c3 w4 ho hg; have HO4 := Lib.hid ho; have HK4 : Hid (Kept (fun k => A2.map (·.block) = some k) (wr.alloc (.cells #[.int .i64 x] 2)) w4) := Lib.hid (Kept.of_grown hg); clear ho hg)
              have hb2 := HO2.out.base
              go_roundw
              case rel => exact ⟨j + 1, N + 1, A3, c3, by omega, by go_num, rfl, by have := HNE.out; omega, by rw [← rep_snoc]; exact HO4.out, (HRD2.out.high (Kept.of_below HBB.out) (S := fun _ => False) fun k hk => hk.elim).high HK4.out fun k hk => by have := hb2 k hk; omega, (HK2.out.trans (Kept.of_below HBB.out)).trans' HK4.out fun k hk => .inr (hb2 k hk)⟩
              case measure => simp [intOf]; omega
            · obtain rfl : j = R := by omega
              go_wp2
              go_roundw
              case rel => exact ⟨l ++ List.replicate j x, N, A2, c2, r2, rfl, by rw [List.length_append, List.length_replicate, ← HL.out]; exact HNE.out, by have := HNE.out; omega, HO2.out, HRD2.out, HK2.out, by rw [HN.out, HNE.out, HSUB.out]⟩
              case measure => have := HNE.out; simp [lenOfS]; omega
    · obtain rfl : L = n := by omega
      have HN : Hid (rruns L q = some (l, q')) := Lib.hid (by rw [HRR.out, Nat.sub_self, rruns_zero]; simp)
      go_wp2
      go_ret
      rw [HN.out]
      exact ⟨⟨A, L, cap, rfl, HO.out⟩, HRD.out, HK.out⟩
end Go.Proofs.YtpobfgokikfmbaaDoor

set_option linter.unusedSimpArgs false
set_option linter.unusedVariables false
set_option maxRecDepth 8000
namespace Go.Proofs.YtpobfgokikfmbaaDoor
open Go.RowKit Go.WideShapes Col
namespace Col
def atI (i W : Nat) : Int := (i : Int) * (W : Int) - (W : Int)
theorem atI_add (i W : Nat) : atI i W + (W : Int) = ((i * W : Nat) : Int) := by unfold atI; rw [Int.natCast_mul]; omega
theorem atI_next (i W : Nat) : atI (i + 1) W = ((i * W : Nat) : Int) := by unfold atI; rw [Int.natCast_mul, Int.natCast_add, Int.add_mul]; simp
theorem atI_zero (W : Nat) : atI 0 W = -(W : Int) := by unfold atI; simp
/-- The i-th of some packed numbers. -/
def pval (W V : Nat) (mn : Int) (i : Nat) : Int := wrap64 (mn + IntKind.i64.wrap ((bitsAt V (i * W) W : Nat) : Int))
def pstep (W V : Nat) (mn : Int) (s : Nat × List Nat) : Option (Int × (Nat × List Nat)) := some (pval W V mn s.1, (s.1 + 1, s.2))
theorem prun (W V : Nat) (mn : Int) (r : List Nat) : ∀ k, runS (pstep W V mn) k (0, r) = some ((List.range k).map (pval W V mn), (k, r))
  | 0 => rfl
  | k + 1 => by rw [runS, prun W V mn r k]; simp [pstep, List.range_succ]
end Col
attribute [irreducible] atI
structure PS (g ca cw cl cp W K C V : Nat) (A : Option Addr) (mn : Int) (s : Nat × List Nat) (w : World) : Prop where
  rd : RdM g s.2 w
  ra : w.heap[ca]? = some (.cells #[.int .i64 (atI s.1 W)] 3 (0, 0))
  rw : w.heap[cw]? = some (.cells #[.int .i64 (W : Int)] 3 (0, 0))
  rl : w.heap[cl]? = some (.cells #[.int .i64 mn] 2 (0, 0))
  rp : w.heap[cp]? = some (.cells #[.slice A K C] 22 (0, 0))
  bytes : ByAt w A (leb K V)
  low : ∀ a, A = some a → 0 < (leb K V).length → a.block < g
  n1 : g < ca
  n2 : g < cw
  n3 : g < cl
  n4 : g < cp
  n5 : ca ≠ cw
  n6 : ca ≠ cl
  n7 : ca ≠ cp
section
variable {g ca cw cl cp W K C V : Nat} {A : Option Addr} {mn : Int} {s : Nat × List Nat} {w w' : World}
theorem PS.keep {S : Nat → Prop} (h : PS g ca cw cl cp W K C V A mn s w) (hk : Kept S w w') (hS : ∀ k, S k → g < k ∧ k ≠ ca ∧ k ≠ cw ∧ k ≠ cl ∧ k ≠ cp) : PS g ca cw cl cp W K C V A mn s w' :=
  ⟨h.rd.high hk fun k hs => (hS k hs).1, hk.heap h.ra fun e => (hS _ e).2.1 rfl, hk.heap h.rw fun e => (hS _ e).2.2.1 rfl, hk.heap h.rl fun e => (hS _ e).2.2.2.1 rfl, hk.heap h.rp fun e => (hS _ e).2.2.2.2 rfl,
    h.bytes.kept hk fun a ha h0 hs => by have := h.low a ha h0; have := (hS _ hs).1; omega, h.low, h.n1, h.n2, h.n3, h.n4, h.n5, h.n6, h.n7⟩
theorem PS.c_ca (h : PS g ca cw cl cp W K C V A mn s w) : w.cell? ⟨ca, 0, none⟩ = some (.int .i64 (atI s.1 W)) := by rw [cell_of_row _ _ _ _ _ _ h.ra]; rfl
theorem PS.c_cw (h : PS g ca cw cl cp W K C V A mn s w) : w.cell? ⟨cw, 0, none⟩ = some (.int .i64 (W : Int)) := by rw [cell_of_row _ _ _ _ _ _ h.rw]; rfl
theorem PS.c_cl (h : PS g ca cw cl cp W K C V A mn s w) : w.cell? ⟨cl, 0, none⟩ = some (.int .i64 mn) := by rw [cell_of_row _ _ _ _ _ _ h.rl]; rfl
theorem PS.c_cp (h : PS g ca cw cl cp W K C V A mn s w) : w.cell? ⟨cp, 0, none⟩ = some (.slice A K C) := by rw [cell_of_row _ _ _ _ _ _ h.rp]; rfl
theorem PS.lts (h : PS g ca cw cl cp W K C V A mn s w) : ca < w.heap.size ∧ cw < w.heap.size ∧ cl < w.heap.size ∧ cp < w.heap.size := ⟨(Array.getElem?_eq_some_iff.1 h.ra).1, (Array.getElem?_eq_some_iff.1 h.rw).1, (Array.getElem?_eq_some_iff.1 h.rl).1, (Array.getElem?_eq_some_iff.1 h.rp).1⟩
theorem PS.put {i : Nat} {r : List Nat} (h : PS g ca cw cl cp W K C V A mn (i, r) w) : PS g ca cw cl cp W K C V A mn (i + 1, r) (w.setCell ⟨ca, 0, none⟩ (.int .i64 ((i * W : Nat) : Int))) := by
  have hk : Kept (fun k => k = ca) w (w.setCell ⟨ca, 0, none⟩ (.int .i64 ((i * W : Nat) : Int))) := (Kept.refl _ _).setCell _ _ (.inl rfl)
  refine ⟨h.rd.high hk fun k hs => by have hs : k = ca := hs; have := h.n1; omega, ?_, hk.heap h.rw fun e => h.n5 e.symm, hk.heap h.rl fun e => h.n6 e.symm, hk.heap h.rp fun e => h.n7 e.symm, h.bytes.kept hk fun a ha h0 hs => by have := h.low a ha h0; have := h.n1; have hs : a.block = ca := hs; omega, h.low, h.n1, h.n2, h.n3, h.n4, h.n5, h.n6, h.n7⟩
  have h1 := h.ra
  rw [World.setCell, atI_next]; simp [Array.getElem?_modify, h1]
end
theorem i64_wrap (n : Int) : IntKind.i64.wrap n = wrap64 n := by unfold wrap64; rw [IntKind.wrap_i64]
theorem pv_eq (W V : Nat) (mn : Int) (i at' : Nat) (h : at' = i * W) : wrap64 (mn + IntKind.i64.wrap ((bitsAt V at' W : Nat) : Int)) = pval W V mn i := by subst h; rfl
set_option maxHeartbeats 2000000 in
theorem packed_step (g ca cw cl cp W K C V : Nat) (A : Option Addr) (mn : Int) (i : Nat) (r : List Nat) (hW : W ≤ 64) (hK : K ≤ 100000000) (hi : i * W + W ≤ 8 * K) (hV : Hid (V < 2 ^ (8 * K))) (w : World) (H : Hid (PS g ca cw cl cp W K C V A mn (i, r) w)) :
    Calls Tryd.prog 85 #[.pointer (some ⟨ca, 0, none⟩), .pointer (some ⟨cw, 0, none⟩), .pointer (some ⟨cl, 0, none⟩), .pointer (some ⟨cp, 0, none⟩)] w (StepEnds g (Two g ca) (PS g ca cw cl cp W K C V A mn) (pstep W V mn (i, r)) w) := by
  have c1 := H.out.c_ca
  have c2 := H.out.c_cw
  have f1 : w.frozen? ⟨ca, 0, none⟩ = false := row_frozen H.out.ra 0
  obtain ⟨at', hat⟩ : ∃ at', at' = i * W := ⟨_, rfl⟩
  have HAT := Lib.hid hat
  have hadd : atI i W + (W : Int) = (at' : Int) := by rw [hat]; exact atI_add i W
  rw [← hat] at hi
  have HP2 := Lib.hid H.out.put
  rw [← hat] at HP2
  have HK : Hid (Kept (Two g ca) w (w.setCell ⟨ca, 0, none⟩ (.int .i64 (at' : Int)))) := Lib.hid ((Kept.refl _ _).setCell _ _ (.inl (.inr rfl)))
  have hat9 : at' ≤ 800000000 := by omega
  clear hat
  go_enter Tryd.func85, Tryd.ntmps85
  go_upto_region 2 with fail
  generalize hw9 : w.setCell ⟨ca, 0, none⟩ (.int .i64 (at' : Int)) = w9 at *
  clear c1 c2 f1
  have HL := Lib.hid HP2.out.lts
  have HCA : Hid (w9.cell? ⟨ca, 0, none⟩ = some (.int .i64 (at' : Int))) := Lib.hid (by have := HP2.out.c_ca; rwa [atI_next, ← HAT.out] at this)
  have HCW := Lib.hid HP2.out.c_cw; have HCL := Lib.hid HP2.out.c_cl; have HCP := Lib.hid HP2.out.c_cp
  have HGB := Lib.hid (getBits_any A K C V at' W hW hK hi hV w9.drew (Lib.hid (HP2.out.bytes.keep ((Below.refl _ _).drew))))
  refine wp_region_held_drew (S := fun w' => Below w9.heap.size w9 w') (by kernel_rfl) ((Below.refl _ _).drew) (fun hHeld => ?_)
  refine wpAnyH_take (i := 0) (v := .int .i64 mn) rfl (by kernel_rfl) (by kernel_rfl) (by kernel_rfl) (fun _ _ _ h => h) (Or.inl ⟨by rfl, fun w hw => by have hc : w.cell? ⟨cl, 0, none⟩ = some (.int .i64 mn) := (hw.cell (p := ⟨cl, 0, none⟩) HL.out.2.2.1).trans HCL.out; go_simp⟩) hHeld ?_
  try dsimp only
  try simp only [Act.put, List.getElem_toArray, List.getElem_cons_zero, List.getElem_cons_succ, List.setIfInBounds_toArray, List.set_cons_zero, List.set_cons_succ]
  refine wpAnyH_take (i := 1) (v := .slice A K C) rfl (by kernel_rfl) (by kernel_rfl) (by kernel_rfl) (fun _ _ _ h => h) (Or.inl ⟨by rfl, fun w hw => by have hc : w.cell? ⟨cp, 0, none⟩ = some (.slice A K C) := (hw.cell (p := ⟨cp, 0, none⟩) HL.out.2.2.2).trans HCP.out; go_simp⟩) hHeld ?_
  try dsimp only
  try simp only [Act.put, List.getElem_toArray, List.getElem_cons_zero, List.getElem_cons_succ, List.setIfInBounds_toArray, List.set_cons_zero, List.set_cons_succ]
  refine wpAnyH_take (i := 2) (v := .int .i64 (at' : Int)) rfl (by kernel_rfl) (by kernel_rfl) (by kernel_rfl) (fun _ _ _ h => h) (Or.inl ⟨by rfl, fun w hw => by have hc : w.cell? ⟨ca, 0, none⟩ = some (.int .i64 (at' : Int)) := (hw.cell (p := ⟨ca, 0, none⟩) HL.out.1).trans HCA.out; go_simp⟩) hHeld ?_
  try dsimp only
  try simp only [Act.put, List.getElem_toArray, List.getElem_cons_zero, List.getElem_cons_succ, List.setIfInBounds_toArray, List.set_cons_zero, List.set_cons_succ]
  refine wpAnyH_take (i := 3) (v := .int .i64 (W : Int)) rfl (by kernel_rfl) (by kernel_rfl) (by kernel_rfl) (fun _ _ _ h => h) (Or.inl ⟨by rfl, fun w hw => by have hc : w.cell? ⟨cw, 0, none⟩ = some (.int .i64 (W : Int)) := (hw.cell (p := ⟨cw, 0, none⟩) HL.out.2.1).trans HCW.out; go_simp⟩) hHeld ?_
  try dsimp only
  try simp only [Act.put, List.getElem_toArray, List.getElem_cons_zero, List.getElem_cons_succ, List.setIfInBounds_toArray, List.set_cons_zero, List.set_cons_succ]
  refine wpAnyH_ready (rs := [4]) (by kernel_rfl) (by simp) (AllReadyH.cons rfl (fun K hK => ?_) AllReadyH.nil)
  go_simp
  refine (HGB.out).mono ?_
  rintro e w10 ⟨rfl, rfl⟩
  refine hK.out _ _ hHeld (fun hHeld => ?_)
  clear hK K
  try dsimp only
  try simp only [Act.put, List.getElem_toArray, List.getElem_cons_zero, List.getElem_cons_succ, List.setIfInBounds_toArray, List.set_cons_zero, List.set_cons_succ]
  refine wpAnyH_ready (rs := [5]) (by kernel_rfl) (by simp) (AllReadyH.cons rfl (fun K hK => ?_) AllReadyH.nil)
  go_simp
  refine hK.out _ _ hHeld (fun hHeld => ?_)
  clear hK K
  try dsimp only
  try simp only [Act.put, List.getElem_toArray, List.getElem_cons_zero, List.getElem_cons_succ, List.setIfInBounds_toArray, List.set_cons_zero, List.set_cons_succ]
  refine wpAnyH_ready (rs := [6]) (by kernel_rfl) (by simp) (AllReadyH.cons rfl (fun K hK => ?_) AllReadyH.nil)
  go_simp
  refine hK.out _ _ hHeld (fun hHeld => ?_)
  clear hK K
  try dsimp only
  try simp only [Act.put, List.getElem_toArray, List.getElem_cons_zero, List.getElem_cons_succ, List.setIfInBounds_toArray, List.set_cons_zero, List.set_cons_succ]
  refine wpAnyH_ready (rs := [7]) (by kernel_rfl) (by simp) (AllReadyH.cons rfl (fun K hK => ?_) AllReadyH.nil)
  go_simp
  refine hK.out _ _ hHeld (fun hHeld => ?_)
  clear hK K
  try dsimp only
  try simp only [Act.put, List.getElem_toArray, List.getElem_cons_zero, List.getElem_cons_succ, List.setIfInBounds_toArray, List.set_cons_zero, List.set_cons_succ]
  refine wpAnyH_done (by kernel_rfl) ?_ _
  have HBX := Lib.hid hHeld
  go_wp2
  go_ret
  refine ⟨?_, wrap64_wf' _, HP2.out.keep (S := fun _ => False) (Kept.of_below HBX.out) fun k hk => hk.elim, HK.out.trans (Kept.of_below HBX.out)⟩
  exact ret_i64 ((i64_wrap _).trans (pv_eq W V mn i at' HAT.out))
end Go.Proofs.YtpobfgokikfmbaaDoor
