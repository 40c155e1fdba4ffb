/-
  Layer files: a file of many changed; operate, Read and Sync of a store of many files.
-/
import Derived.Deep.RegionHeld3
import Derived.Deep.DeepCutAuto
import Derived.StillTailTactics
import Derived.Test.YtjldamkmdkaiiaaGreatDoorFdK
import Derived.IntWalk
set_option linter.unusedSimpArgs false
set_option linter.unusedVariables false
set_option maxRecDepth 8000
namespace Go.Proofs.YtjldamkmdkaiiaaGreatDoor
open Go.RowKit Go.WideShapes
set_option maxHeartbeats 400000 in
theorem new_anyF (n : Int) (h : 1 ≤ n ∧ n ≤ 16777216) (w : World) : Calls Tryz.prog 11 #[.int .i64 n] w fun e w' => ∃ g, e = .returned (.tuple #[.pointer (some ⟨g, 0, none⟩), .int .i64 0]) ∧ w.heap.size ≤ g ∧ S0 (Bs.of w) g n false 0 0 w' := by
 obtain ⟨h1, h2⟩ := h
 have HS : Hid (S0 (Bs.of w) w.heap.size n false 0 0 (w.alloc (.cells (stC n none 0 0 false 0 0).toArray 58))) := Lib.hid ⟨⟨World.grownBy_alloc _ _ _, KF.of_below ((Below.refl _ _).alloc (Nat.le_refl _) _)⟩, heap_alloc_new' w _⟩
 go_enter Tryz.func11, Tryz.ntmps11
 go_wp2
 go_ret2
 exact ⟨_, rfl, Nat.le_refl _, HS.out⟩
structure Op1 (armed : Int) (e : Int) (armed' : Int) (off' : Bool) : Prop where
 out : (armed = 0 ∧ e = 0 ∧ armed' = 0 ∧ off' = false) ∨ (2 ≤ armed ∧ e = 0 ∧ armed' = armed - 1 ∧ off' = false) ∨ (armed = 1 ∧ e = 9 ∧ armed' = 0 ∧ off' = true)
theorem Op1.some (armed : Int) (h : 0 ≤ armed) : ∃ e armed' off', Op1 armed e armed' off' := by
 by_cases h0 : armed = 0
 ·exact ⟨0, 0, false, ⟨.inl ⟨h0, rfl, rfl, rfl⟩⟩⟩
 ·by_cases h1 : armed = 1
  ·exact ⟨9, 0, true, ⟨.inr (.inr ⟨h1, rfl, rfl, rfl⟩)⟩⟩
  ·exact ⟨0, armed - 1, false, ⟨.inr (.inl ⟨by omega, rfl, rfl, rfl⟩)⟩⟩
theorem lv_files (w : World) (g j : Nat) (v : Value) (h : w.cell? ⟨g, j, none⟩ = some v) : (loadVar 56 ⟨g, j, none⟩).run Tryz.prog w = .ok v w := by
 go_simp
theorem lv_int (w : World) (g j : Nat) (v : Value) (h : w.cell? ⟨g, j, none⟩ = some v) : (loadVar 3 ⟨g, j, none⟩).run Tryz.prog w = .ok v w := by
 go_simp
theorem yl {ops : Array Oper} {S : World → Prop} {op : Oper} {a : Act} (hw : Region.wanted op (yielded ops a.tmps) = true) (ty : TypeId) (x : Operand) (ho : op.op = .load ty x) (g j : Nat) (hx : a.eval x = .pointer (some ⟨g, j, none⟩)) (v : Value)
  (hl : ∀ (w : World) (g j : Nat) (v : Value), w.cell? ⟨g, j, none⟩ = some v → (loadVar ty ⟨g, j, none⟩).run Tryz.prog w = .ok v w) (hS : ∀ w, S w → w.cell? ⟨g, j, none⟩ = some v) : YieldsIf Tryz.prog ops S op v a :=
 .inl ⟨hw, fun w hw' => by
  unfold execOp
  simp only [ho, hx, Instr.loadAt, Instr.sureAddr, Sem.run_bind, Sem.run_pure, Result.andThen_ok, hl w g j v (hS w hw')]⟩
theorem wp_append_by {o : Oper} {a : Act} {w : World} {K : Act → World → Prop} {Q : Exit → Act → World → Prop} (s x : Operand)
  (ho : o.op = .call { callee := .builtin .append, args := #[s, x], argTypes := #[32, 32] })
  (B : Nat) (A : Option Addr) (n cap : Nat) (l : List Nat) (hs : a.eval s = .slice A n cap) (hown : OwnS w B A n cap l) (b : Option Addr) (m c : Nat) (l2 : List Nat) (hx : a.eval x = .slice b m c) (hm : m = l2.length) (h2 : ByAt w b l2)
  (hbytes : n + m ≤ 140737488355328) (hbase : B ≤ w.heap.size)
  (h : ∀ A' cap' w', OwnS w' B A' (n + m) cap' (l ++ l2) → w.grownBy w' (A.map (·.block)) → (A'.map (·.block) = A.map (·.block) ∨ A'.map (·.block) = some w.heap.size) → K (a.put o.dst (.slice A' (n + m) cap')) w') : o.wp Tryz.prog a w K Q := by
 obtain ⟨A', cap', w', hr, h3, h4, h5⟩ := run_append_by w B A n cap l hown b m c l2 hm h2 hbytes hbase o.type
 unfold Oper.wp execOp
 simp only [ho, resolve, invoke, builtin, Sem.run_bind, Sem.run_pure, Result.andThen_ok, List.map_toArray, List.map_cons, List.map_nil, hs, hx, hr]
 exact h A' cap' w' h3 h4 h5
set_option maxHeartbeats 1000000 in
theorem clone_anyF (a : Option Addr) (l : List Nat) (len cap : Nat) (hlen : Hid (len = l.length)) (hl : len ≤ 140737488355328) (w : World) (HA : Hid (ByAt w a l)) :
  Calls Tryz.prog 74 #[.slice a len cap] w (RetS w l) := by
 have q22 : ∀ (w : World) (a : Option Addr) (n c n' c' : Nat), (binOp .eql 32 (.slice a n c) (.slice none n' c')).run Tryz.prog w = .ok (.bool a.isNone) w := fun w a n c n' c' => Lib.run_eql_slice_nil w _ _ a n c n' c' Tryz.underlying32
 have hl9 : len ≤ maxLen := by unfold maxLen; omega
 rcases a with _ | ad
 ·have e : l = [] := by
   rcases l with _ | ⟨x, r⟩
   ·rfl
   ·obtain ⟨-, g, off, e, -⟩ := HA.out 0 x rfl; cases e
  subst e
  have e : len = 0 := hlen.out
  subst e
  go_enter Tryz.func74, Tryz.ntmps74
  go_wp2
  go_ret
  exact ⟨none, 0, rfl, OwnS.nil _ _, Below.refl _ _⟩
 ·have HA1 : Hid (ByAt (w.alloc (.cells #[] 5)) (some ad) l) := Lib.hid (HA.out.keep ((Below.refl _ _).alloc (Nat.le_refl _) _))
  have HO : Hid (OwnS (w.alloc (.cells #[] 5)) w.heap.size (some ⟨w.heap.size, 0, none⟩) 0 0 []) := Lib.hid ⟨World.ownsRow_made w #[] 0 (Nat.le_refl _) (Nat.zero_le _) (by simp), fun x hx => by cases hx⟩
  go_enter Tryz.func74, Tryz.ntmps74
  go_wp2_with (at_builtin; refine wpList_append_by rfl (.tmp 5) (.tmp 6) rfl w.heap.size (some ⟨w.heap.size, 0, none⟩) 0 0 [] rfl HO.out (some ad) len cap l rfl hlen.out HA1.out (by omega) (by simp) ?_; intro A' cap' w' hO hG hL)
  go_ret
  rw [Nat.zero_add, List.nil_append, hlen.out] at hO
  exact ⟨A', cap', by rw [← hlen.out]; rfl, hO, ((Below.refl _ w).alloc (Nat.le_refl _) _).grown hG (by simp) (by intro k hk; simp at hk; omega)⟩
theorem OwnS.cut {w : World} {B n cap : Nat} {A : Option Addr} {l : List Nat} (h : OwnS w B A n cap l) (k : Nat) (hk : k ≤ n) : OwnS w B A k cap (l.take k) := by
 have hn := h.len
 rcases h.1.2 with ⟨h1, h2⟩ | ⟨g, cap', cur, h1, hb, hrow, hnc, hc, hs, ht⟩
 ·cases h1
  obtain rfl : k = 0 := by omega
  rw [List.take_zero]; exact OwnS.nil _ _
 ·cases h1
  refine ⟨⟨by rw [bys_length, List.length_take]; omega, .inr ⟨g, cap, cur, rfl, hb, hrow, by omega, hc, hs, ?_⟩⟩, fun x hx => h.2 x (List.mem_of_mem_take hx)⟩
  have h3 : bys (l.take k) = (bys l).take k := by unfold bys; rw [List.map_take]
  rw [h3, ← ht, Nat.mul_one, Nat.mul_one, List.take_take, Nat.min_eq_left hk]
section
variable {W : Bs} {g f fcap cap : Nat} {room armed ops : Int} {off : Bool} {r : List Value} {A : Option Addr} {l : List Nat}
theorem S1F.cut {w : World} {d : Int} (h : S1F W g room off armed ops f fcap r A cap l d w) (k : Nat) (hk : k ≤ l.length) : S1F W g room off armed ops f fcap r A cap (l.take k) k ((w.setCell ⟨f, 2, none⟩ (.int .i64 k)).drew.setCell ⟨f, 1, none⟩ (.slice A k cap)) := by
 have h1 := (h.putDu k).drew
 have hl : (l.take k).length = k := by rw [List.length_take]; omega
 refine ⟨gb_set h1.below (.inr h1.fbase) (isT_fl h1.fl) _ _, h1.fbase, h1.ne, row_far (Ne.symm h1.ne) h1.st, ?_, h1.fc, ?_, h1.sg, h1.sf⟩
 ·rw [hl]; exact row_set h1.fl 1 _
 ·rw [hl]; exact own_far (h1.own.cut k hk) h1.sf
end
structure Fil where
 name : ByteArray
 A : Option Addr
 cap : Nat
 l : List Nat
 du : Nat
def FilesAt (w : World) (f : Nat) (xs : List Fil) : Prop :=
 ∀ (k : Nat) (x : Fil), xs[k]? = some x → f < w.heap.size ∧ w.cell? ⟨f, k * 3, none⟩ = some (.string x.name) ∧ w.cell? ⟨f, k * 3 + 1, none⟩ = some (.slice x.A x.l.length x.cap) ∧ w.cell? ⟨f, k * 3 + 2, none⟩ = some (.int .i64 (x.du : Nat))
theorem FilesAt.keep {w w' : World} {f : Nat} {xs : List Fil} (h : FilesAt w f xs) (hb : Below w.heap.size w w') : FilesAt w' f xs := fun k x hx => by
 obtain ⟨h0, h1, h2, h3⟩ := h k x hx
 exact ⟨Nat.lt_of_lt_of_le h0 hb.size, (hb.cell (p := ⟨f, k * 3, none⟩) h0).trans h1, (hb.cell (p := ⟨f, k * 3 + 1, none⟩) h0).trans h2, (hb.cell (p := ⟨f, k * 3 + 2, none⟩) h0).trans h3⟩
def Place (xs : List Fil) (t : ByteArray) (lo : Nat) : Prop :=
 lo ≤ xs.length ∧ (∀ (k : Nat) (x : Fil), k < lo → xs[k]? = some x → cmpKF x.name t < 0) ∧ (∀ (k : Nat) (x : Fil), lo ≤ k → xs[k]? = some x → ¬ cmpKF x.name t < 0)
def isAt (xs : List Fil) (t : ByteArray) (lo : Nat) : Bool :=
 match xs[lo]? with
 | some x => cmpKF x.name t == 0
 | none => false
set_option maxHeartbeats 1000000 in
theorem findf_any (nm t : ByteArray) (r : Int) (hr : cmpKF nm t = r) (l : Value) (d : Int) (w : World) : Calls Tryz.prog 39 #[.agg #[.string nm, l, .int .i64 d], .string t] w fun e w' => e = .returned (.int .i64 r) ∧ Below w.heap.size w w' := by
 have H := Lib.hid fun w => strCompare_anyF nm t r hr w
 clear hr
 go_enter Tryz.func39, Tryz.ntmps39
 go_wp2_with (go_at_call 40; refine (H.out _).mono ?_; rintro e w' ⟨rfl, rfl⟩)
 go_ret
 exact ⟨rfl, (Below.refl w.heap.size w).alloc (Nat.le_refl _) _⟩
set_option maxHeartbeats 4000000 in
theorem search_any (f fc : Nat) (xs : List Fil) (t : ByteArray) (n : Nat) (hn : Hid (n = xs.length)) (h1000 : n ≤ 1000) (lo : Nat) (hlo : Hid (Place xs t lo)) (W : World) (HF : Hid (FilesAt W f xs)) :
  Calls Tryz.prog 38 #[.slice (some ⟨f, 0, none⟩) n fc, .string t, .func (.func 39) #[] #[]] W fun e w' => e = .returned (.tuple #[.int .i64 lo, .bool (isAt xs t lo)]) ∧ Below W.heap.size W w' := by
 go_enter Tryz.func38, Tryz.ntmps38
 go_wp2
 go_loopw [9, 10] (fun a b wr => ∃ i j : Nat, i ≤ lo ∧ lo ≤ j ∧ j ≤ n ∧ a = .int .i64 i ∧ b = .int .i64 j ∧ Below W.heap.size W wr) (fun a b _ => (intOf b - intOf a).toNat)
 case atStart => exact ⟨0, n, Nat.zero_le _, by have := hlo.out.1; have := hn.out; omega, Nat.le_refl _, rfl, rfl, Below.refl _ _⟩
 case round =>
  obtain ⟨i, j, h1, h2, h3, rfl, rfl, hb⟩ := hrel
  have HB := Lib.hid hb
  clear hb
  by_cases hij : i < j
  ·have hhn : (i + j) / 2 < xs.length := by have := hn.out; omega
   obtain ⟨x, hxe⟩ : ∃ x, xs[(i + j) / 2]? = some x := ⟨xs[(i + j) / 2], List.getElem?_eq_getElem hhn⟩
   have HX := Lib.hid hxe
   obtain ⟨c0, c1, c2, c3⟩ := (HF.out.keep HB.out) _ x hxe
   obtain ⟨r, hr⟩ : ∃ r, cmpKF x.name t = r := ⟨_, rfl⟩
   have HR := Lib.hid hr
   have hm1 : i ≤ (i + j) / 2 := by omega
   have hm2 : (i + j) / 2 < j := by omega
   clear hxe hr
   by_cases hneg : r < 0
   ·have hlt : (i + j) / 2 + 1 ≤ lo := by
     rcases Nat.lt_or_ge ((i + j) / 2) lo with hq | hq
     ·exact hq
     ·exact absurd (by rw [HR.out]; exact hneg) (hlo.out.2.2 _ x hq HX.out)
    go_wp2_with (go_at_call 39; refine (findf_any _ _ r HR.out _ _ _).mono ?_; rintro e w1 ⟨rfl, hb⟩; have HB1 := Lib.hid (below_to HB.out hb); clear hb)
    go_roundw
    case rel => exact ⟨(i + j) / 2 + 1, j, hlt, h2, h3, by go_num, rfl, HB1.out⟩
    case measure => simp [intOf]; omega
   ·have hge : lo ≤ (i + j) / 2 := by
     rcases Nat.lt_or_ge ((i + j) / 2) lo with hq | hq
     ·exact absurd (by have := hlo.out.2.1 _ x hq HX.out; rwa [HR.out] at this) hneg
     ·exact hq
    go_wp2_with (go_at_call 39; refine (findf_any _ _ r HR.out _ _ _).mono ?_; rintro e w1 ⟨rfl, hb⟩; have HB1 := Lib.hid (below_to HB.out hb); clear hb)
    go_roundw
    case rel => exact ⟨i, (i + j) / 2, h1, hge, by omega, rfl, by go_num, HB1.out⟩
    case measure => simp [intOf]; omega
  ·have hi : i = lo := by omega
   subst hi
   clear h1 h2
   have hji : ¬ ((i : Int) < (j : Int)) := by omega
   by_cases hin : i < n
   ·obtain ⟨x, hxe⟩ : ∃ x, xs[i]? = some x := ⟨xs[i]'(by have := hn.out; omega), List.getElem?_eq_getElem _⟩
    have HI : Hid (isAt xs t i = (cmpKF x.name t == 0)) := Lib.hid (by unfold isAt; rw [hxe])
    obtain ⟨c0, c1, c2, c3⟩ := (HF.out.keep HB.out) _ x hxe
    obtain ⟨r, hr⟩ : ∃ r, cmpKF x.name t = r := ⟨_, rfl⟩
    have HR := Lib.hid hr
    rw [hr] at HI
    clear hxe hr
    go_wp2_with (go_at_call 39; refine (findf_any _ _ r HR.out _ _ _).mono ?_; rintro e w1 ⟨rfl, hb⟩; have HB1 := Lib.hid (below_to HB.out hb); clear hb)
    go_ret2
    exact ⟨by rw [HI.out]; rfl, HB1.out⟩
   ·have HI : Hid (isAt xs t i = false) := Lib.hid (by unfold isAt; rw [List.getElem?_eq_none (by have := hn.out; omega)])
    go_wp2
    go_ret2
    exact ⟨by rw [HI.out]; rfl, HB.out⟩
set_option maxHeartbeats 1000000 in
theorem search_nil (F : Option Addr) (fc : Nat) (t : ByteArray) (w : World) : Calls Tryz.prog 38 #[.slice F 0 fc, .string t, .func (.func 39) #[] #[]] w fun e w' => e = .returned (.tuple #[.int .i64 0, .bool false]) ∧ w = w' := by
 go_enter Tryz.func38, Tryz.ntmps38
 go_wp2
 refine wp_loop_rounds 1 ?_
 rw [rounds_succ]
 go_wp2
 go_ret2
 exact ⟨rfl, rfl⟩
set_option maxHeartbeats 1000000 in
theorem find_any (g f fc : Nat) (xs : List Fil) (t : ByteArray) (n : Nat) (hn : Hid (n = xs.length)) (h1000 : n ≤ 1000) (lo : Nat) (hlo : Hid (Place xs t lo)) (w : World) (k1 : w.cell? ⟨g, 1, none⟩ = some (.slice (some ⟨f, 0, none⟩) n fc)) (HF : Hid (FilesAt w f xs)) :
  Calls Tryz.prog 25 #[.pointer (some ⟨g, 0, none⟩), .string t] w fun e w' => e = .returned (.tuple #[.int .i64 lo, .bool (isAt xs t lo)]) ∧ Below w.heap.size w w' := by
 have H := Lib.hid (search_any f fc xs t n hn h1000 lo hlo w HF)
 clear hn hlo HF
 generalize isAt xs t lo = v at *
 go_enter Tryz.func25, Tryz.ntmps25
 go_wp2_with (go_at_call 38; refine H.out.mono ?_; rintro e w' ⟨rfl, hb⟩; have HB := Lib.hid hb; clear hb)
 go_ret2
 exact ⟨rfl, HB.out⟩
set_option maxHeartbeats 1000000 in
theorem find_nil (g : Nat) (F : Option Addr) (fc : Nat) (t : ByteArray) (w : World) (h1 : w.cell? ⟨g, 1, none⟩ = some (.slice F 0 fc)) : Calls Tryz.prog 25 #[.pointer (some ⟨g, 0, none⟩), .string t] w fun e w' => e = .returned (.tuple #[.int .i64 0, .bool false]) ∧ w = w' := by
 go_enter Tryz.func25, Tryz.ntmps25
 go_wp2_with (go_at_call 38; refine (search_nil _ _ _ _).mono ?_; rintro e w' ⟨rfl, rfl⟩)
 go_ret2
 exact ⟨rfl, rfl⟩
def sumN : List Fil → Nat
 | [] => 0
 | x :: r => x.l.length + sumN r
theorem sumN_append (a b : List Fil) : sumN (a ++ b) = sumN a + sumN b := by
 induction a with
 | nil => simp [sumN]
 | cons x r ih => simp only [List.cons_append, sumN, ih]; omega
theorem sumN_take (xs : List Fil) (k : Nat) (x : Fil) (h : xs[k]? = some x) : sumN (xs.take (k + 1)) = sumN (xs.take k) + x.l.length := by
 rw [List.take_add_one, h, sumN_append]; rfl
theorem sumN_le (xs : List Fil) (k : Nat) : sumN (xs.take k) ≤ sumN xs := by
 have h := congrArg sumN (List.take_append_drop k xs)
 rw [sumN_append] at h; omega
set_option maxHeartbeats 4000000 in
theorem used_any (g f fc : Nat) (xs : List Fil) (n : Nat) (hn : Hid (n = xs.length)) (h1000 : n ≤ 1000) (hs : sumN xs ≤ 1000000000) (W : World) (k1 : W.cell? ⟨g, 1, none⟩ = some (.slice (some ⟨f, 0, none⟩) n fc)) (HF : Hid (FilesAt W f xs)) :
  Calls Tryz.prog 18 #[.pointer (some ⟨g, 0, none⟩)] W fun e w' => e = .returned (.int .i64 (sumN xs : Nat)) ∧ Below W.heap.size W w' := by
 go_enter Tryz.func18, Tryz.ntmps18
 go_wp2
 go_loopw [3, 13] (fun s i wr => ∃ k : Nat, k ≤ n ∧ i = .int .i64 k ∧ s = .int .i64 (sumN (xs.take k) : Nat) ∧ Below W.heap.size W wr) (fun _ i _ => n - (intOf i).toNat)
 case atStart => exact ⟨0, Nat.zero_le _, rfl, rfl, Below.refl _ _⟩
 case round =>
  obtain ⟨k, hk, rfl, rfl, hb⟩ := hrel
  have HB := Lib.hid hb
  clear hb
  by_cases hkn : k < n
  ·have hkl : k < xs.length := by have := hn.out; omega
   obtain ⟨x, hxe⟩ : ∃ x, xs[k]? = some x := ⟨xs[k], List.getElem?_eq_getElem hkl⟩
   obtain ⟨c0, c1, c2, c3⟩ := (HF.out.keep HB.out) _ x hxe
   have HT : Hid (sumN (xs.take (k + 1)) = sumN (xs.take k) + x.l.length) := Lib.hid (sumN_take xs k x hxe)
   have hle : sumN (xs.take k) + x.l.length ≤ 1000000000 := by have := sumN_le xs (k + 1); have := HT.out; omega
   generalize sumN (xs.take k) = S at *
   clear hxe
   go_wp2
   go_roundw
   case rel => exact ⟨k + 1, by omega, by go_num, by rw [HT.out]; go_num, HB.out.alloc (by have := HB.out.size; omega) _⟩
   case measure => simp [intOf]; omega
  ·have hkn' : k = n := by omega
   subst hkn'
   have HT : Hid (sumN (xs.take k) = sumN xs) := Lib.hid (by rw [List.take_of_length_le (by have := hn.out; omega)])
   generalize sumN (xs.take k) = S at *
   go_wp2
   go_ret
   exact ⟨by rw [HT.out]; rfl, HB.out⟩
def letK (x : Nat) : Bool := (decide (48 ≤ x) && decide (x ≤ 57)) || (decide (97 ≤ x) && decide (x ≤ 122)) || decide (x = 46)
set_option maxHeartbeats 1000000 in
theorem letter_any (x : Nat) (hx : x < 256) (w : World) : Calls Tryz.prog 52 #[.int .u8 x] w fun e w' => e = .returned (.bool (letK x)) ∧ w = w' := by
 have HL : Hid (letK x = letK x) := Lib.hid rfl
 obtain ⟨v, hv⟩ : ∃ v, letK x = v := ⟨_, rfl⟩
 have HV := Lib.hid hv
 rw [hv]
 have h : (x = 46) ∨ (x < 48 ∧ x ≠ 46) ∨ (48 ≤ x ∧ x ≤ 57) ∨ (57 < x ∧ x < 97) ∨ (97 ≤ x ∧ x ≤ 122) ∨ 122 < x := by omega
 clear hv HL
 rcases h with rfl | ⟨h1, h2⟩ | ⟨h1, h2⟩ | ⟨h1, h2⟩ | ⟨h1, h2⟩ | h1
 all_goals
  go_enter Tryz.func52, Tryz.ntmps52
  go_wp2
  go_ret
  refine ⟨?_, rfl⟩
  rw [← HV.out]
  refine congrArg (fun b => Ending.returned (.bool b)) ?_
  unfold letK
  first
   | rfl
   | (rw [Bool.eq_iff_iff]; simp; done)
   | (rw [Bool.eq_iff_iff]; simp; omega)
def formK (t : ByteArray) : Bool := decide (1 ≤ t.size) && decide (t.size ≤ 32) && t.data.toList.all (fun b => letK b.toNat)
set_option maxHeartbeats 4000000 in
theorem form_in (t : ByteArray) (n : Nat) (hn : Hid (n = t.size)) (h1 : 1 ≤ n) (h32 : n ≤ 32) (w : World) : Calls Tryz.prog 37 #[.string t] w fun e w' => e = .returned (.bool (t.data.toList.all (fun b => letK b.toNat))) ∧ w = w' := by
 have hs : t.size = n := hn.out.symm
 go_enter Tryz.func37, Tryz.ntmps37
 go_wp2
 go_loopw [14] (fun i wr => ∃ k : Nat, k ≤ n ∧ i = .int .i64 k ∧ w = wr ∧ Hid ((t.data.toList.take k).all (fun b => letK b.toNat) = true)) (fun i _ => n - (intOf i).toNat)
 case atStart => exact ⟨0, Nat.zero_le _, rfl, rfl, Lib.hid rfl⟩
 case round =>
  obtain ⟨k, hk, rfl, rfl, HK⟩ := hrel
  by_cases hkn : k < n
  ·have hkt : k < t.size := by omega
   have H := letter_any t[k].toNat (UInt8.toNat_lt _) w
   have hl : t.data.toList[k]? = some t[k] := by rw [List.getElem?_eq_getElem (by simpa using hkt)]; rfl
   rcases hv : letK t[k].toNat with _ | _
   ·have HA : Hid (t.data.toList.all (fun b => letK b.toNat) = false) := Lib.hid (by
     rw [List.all_eq_false]
     exact ⟨t[k], List.mem_of_getElem? hl, by rw [hv]; decide⟩)
    rw [hv] at H
    clear hv hl
    go_wp2_with (go_at_call 52; refine H.mono ?_; rintro e w' ⟨rfl, rfl⟩)
    go_ret
    exact ⟨by rw [HA.out]; rfl, rfl⟩
   ·have HA : Hid ((t.data.toList.take (k + 1)).all (fun b => letK b.toNat) = true) := Lib.hid (by
     rw [List.take_add_one, hl, List.all_append, HK.out]; simp [hv])
    rw [hv] at H
    clear hv hl
    go_wp2_with (go_at_call 52; refine H.mono ?_; rintro e w' ⟨rfl, rfl⟩)
    go_roundw
    case rel => exact ⟨k + 1, by omega, by go_num, by trivial, HA⟩
    case measure => simp [intOf]; omega
  ·have hkn' : k = n := by omega
   subst hkn'
   have HA : Hid (t.data.toList.all (fun b => letK b.toNat) = true) := Lib.hid (by
    have h := HK.out
    rwa [List.take_of_length_le (by simp; omega)] at h)
   go_wp2
   go_ret
   exact ⟨by rw [HA.out]; rfl, rfl⟩
set_option maxHeartbeats 1000000 in
theorem form_out (t : ByteArray) (n : Nat) (hn : Hid (n = t.size)) (h : n < 1 ∨ 32 < n) (w : World) : Calls Tryz.prog 37 #[.string t] w fun e w' => e = .returned (.bool false) ∧ w = w' := by
 have hs : t.size = n := hn.out.symm
 rcases h with h | h
 all_goals
  go_enter Tryz.func37, Tryz.ntmps37
  go_wp2
  go_ret
  exact ⟨rfl, rfl⟩
theorem form_anyF (t : ByteArray) (w : World) : Calls Tryz.prog 37 #[.string t] w fun e w' => e = .returned (.bool (formK t)) ∧ w = w' := by
 by_cases h1 : 1 ≤ t.size
 ·by_cases h32 : t.size ≤ 32
  ·refine (form_in t t.size (Lib.hid rfl) h1 h32 w).mono ?_
   rintro e w' ⟨rfl, rfl⟩
   exact ⟨by unfold formK; rw [decide_eq_true h1, decide_eq_true h32]; rfl, rfl⟩
  ·refine (form_out t t.size (Lib.hid rfl) (by omega) w).mono ?_
   rintro e w' ⟨rfl, rfl⟩
   exact ⟨by unfold formK; rw [decide_eq_false h32]; simp, rfl⟩
 ·refine (form_out t t.size (Lib.hid rfl) (by omega) w).mono ?_
  rintro e w' ⟨rfl, rfl⟩
  exact ⟨by unfold formK; rw [decide_eq_false h1]; simp, rfl⟩
def refK (a c : Bool) : Int := if a then (if c then 9 else 0) else 1
set_option maxHeartbeats 1000000 in
theorem refuses_any1 (g h : Nat) (t : ByteArray) (c : Bool) (w : World) (h0 : w.cell? ⟨h, 0, none⟩ = some (.string t)) (h2 : w.cell? ⟨g, 2, none⟩ = some (.bool c)) :
  Calls Tryz.prog 24 #[.pointer (some ⟨g, 0, none⟩), .slice (some ⟨h, 0, none⟩) 1 1] w fun e w' => e = .returned (.int .i64 (refK (formK t) c)) ∧ w = w' := by
 have HF := Lib.hid fun w => form_anyF t w
 rcases hv : formK t with _ | _
 all_goals
  rw [hv] at HF
  clear hv
  cases c
  all_goals
   go_enter Tryz.func24, Tryz.ntmps24
   go_wp2
   refine wp_loop_rounds 2 ?_
   rw [rounds_succ]
   go_wp2_with (go_at_call 37; refine (HF.out _).mono ?_; rintro e w' ⟨rfl, rfl⟩)
   try (rw [rounds_succ]; go_wp2)
   go_ret
   exact ⟨rfl, rfl⟩
def placeAt (form c there : Bool) (lo : Nat) : Value := .tuple #[.int .i64 (if form && !c && there then (lo : Int) else 0), .int .i64 (if form then (if c then 9 else (if there then 0 else 5)) else 1)]
set_option maxHeartbeats 4000000 in
theorem place_any (g f fc : Nat) (xs : List Fil) (t : ByteArray) (n : Nat) (hn : Hid (n = xs.length)) (h1000 : n ≤ 1000) (lo : Nat) (hlo : Hid (Place xs t lo)) (c : Bool) (w : World) (k1 : w.cell? ⟨g, 1, none⟩ = some (.slice (some ⟨f, 0, none⟩) n fc)) (k2 : w.cell? ⟨g, 2, none⟩ = some (.bool c)) (HF : Hid (FilesAt w f xs)) :
  Calls Tryz.prog 50 #[.pointer (some ⟨g, 0, none⟩), .string t] w fun e w' => e = .returned (placeAt (formK t) c (isAt xs t lo) lo) ∧ Below w.heap.size w w' := by
 have hb := (Below.refl w.heap.size w).alloc (Nat.le_refl _) (.cells #[.string t] 9)
 have j1 := (hb.cell (p := ⟨g, 1, none⟩) (lt_of_cell k1)).trans k1
 have j2 := (hb.cell (p := ⟨g, 2, none⟩) (lt_of_cell k1)).trans k2
 have HR := Lib.hid (refuses_any1 g w.heap.size t c (w.alloc (.cells #[.string t] 9)) (by simp [World.cell?_alloc_new]) j2)
 have HN := Lib.hid (find_any g f fc xs t n hn h1000 lo hlo _ j1 (Lib.hid (HF.out.keep hb)))
 have HB := Lib.hid hb
 clear hb k1 k2 j1 j2 hn hlo HF h1000
 generalize formK t = a at *
 generalize isAt xs t lo = b at *
 cases a <;> cases c <;> cases b
 all_goals
  go_enter Tryz.func50, Tryz.ntmps50
  go_wp2_with (first
   | (go_at_call 24; refine HR.out.mono ?_; rintro e w1 ⟨rfl, rfl⟩)
   | (go_at_call 25; refine HN.out.mono ?_; rintro e w2 ⟨rfl, hb⟩; have HB2 := Lib.hid hb; clear hb))
  go_ret2
  first
   | exact ⟨rfl, HB.out⟩
   | exact ⟨rfl, below_to HB.out HB2.out⟩
def flC3 (x : Fil) : List Value := [.string x.name, .slice x.A x.l.length x.cap, .int .i64 (x.du : Nat)]
def flat : List Fil → List Value
 | [] => []
 | x :: r => flC3 x ++ flat r
theorem flat_len (xs : List Fil) : (flat xs).length = xs.length * 3 := by
 induction xs with
 | nil => rfl
 | cons x r ih => simp only [flat, List.length_append, ih, List.length_cons, flC3]; simp; omega
theorem flat_get (xs : List Fil) (r : List Value) (k : Nat) (x : Fil) (h : xs[k]? = some x) (j : Nat) (hj : j < 3) : (flat xs ++ r)[k * 3 + j]? = (flC3 x)[j]? := by
 induction xs generalizing k with
 | nil => simp at h
 | cons y s ih =>
  rw [flat, List.append_assoc]
  rcases k with _ | k
  ·simp at h; subst h
   rw [Nat.zero_mul, Nat.zero_add, List.getElem?_append_left (by simp [flC3]; omega)]
  ·rw [List.getElem?_append_right (by simp [flC3]; omega), show (k + 1) * 3 + j - (flC3 y).length = k * 3 + j by simp [flC3]; omega]
   exact ih k (by simpa using h)
structure SN (W : Bs) (g : Nat) (room : Int) (off : Bool) (armed ops : Int) (f fcap : Nat) (r : List Value) (xs : List Fil) (w : World) : Prop where
 below : W.grownBy w (some g)
 fbase : W.heap.size ≤ f
 ne : g ≠ f
 st : w.heap[g]? = some (.cells (stC room (some ⟨f, 0, none⟩) xs.length fcap off armed ops).toArray 58 (0, 0))
 fl : w.heap[f]? = some (.cells (flat xs ++ r).toArray 64 (0, 0))
 fc : r.length + xs.length * 3 = fcap * 3 ∧ fcap ≤ maxLen
 own : ∀ (k : Nat) (x : Fil), xs[k]? = some x → OwnS w W.heap.size x.A x.l.length x.cap x.l
 sg : ∀ (k : Nat) (x : Fil), xs[k]? = some x → x.A.map (·.block) ≠ some g
 sf : ∀ (k : Nat) (x : Fil), xs[k]? = some x → x.A.map (·.block) ≠ some f
 ap : ∀ (j k : Nat) (x y : Fil), j ≠ k → xs[j]? = some x → xs[k]? = some y → ∀ b, x.A.map (·.block) = some b → y.A.map (·.block) ≠ some b
section
variable {W : Bs} {g f fcap : Nat} {room armed ops : Int} {off : Bool} {r : List Value} {xs : List Fil} {w w' : World}
theorem SN.files (h : SN W g room off armed ops f fcap r xs w) : FilesAt w f xs := fun k x hx =>
 ⟨(Array.getElem?_eq_some_iff.1 h.fl).1, row_cells h.fl (k * 3) _ (flat_get xs r k x hx 0 (by decide)), row_cells h.fl (k * 3 + 1) _ (flat_get xs r k x hx 1 (by decide)), row_cells h.fl (k * 3 + 2) _ (flat_get xs r k x hx 2 (by decide))⟩
theorem SN.next (h : SN W g room off armed ops f fcap r xs w) (hb : Below w.heap.size w w') : SN W g room off armed ops f fcap r xs w' :=
 ⟨gb_below h.below hb, h.fbase, h.ne, row_kept h.st hb, row_kept h.fl hb, h.fc, fun k x hx => (h.own k x hx).keep hb, h.sg, h.sf, h.ap⟩
theorem SN.drew (h : SN W g room off armed ops f fcap r xs w) : SN W g room off armed ops f fcap r xs w.drew := h.next (Below.refl _ _).drew
theorem SN.putOps (h : SN W g room off armed ops f fcap r xs w) (v : Int) : SN W g room off armed v f fcap r xs (w.setCell ⟨g, 4, none⟩ (.int .i64 v)) :=
 ⟨gb_set h.below (.inl rfl) (isT_st h.st) _ _, h.fbase, h.ne, row_set h.st 4 _, row_far h.ne h.fl, h.fc, fun k x hx => own_far (h.own k x hx) (h.sg k x hx), h.sg, h.sf, h.ap⟩
theorem SN.putArmed (h : SN W g room off armed ops f fcap r xs w) (v : Int) : SN W g room off v ops f fcap r xs (w.setCell ⟨g, 3, none⟩ (.int .i64 v)) :=
 ⟨gb_set h.below (.inl rfl) (isT_st h.st) _ _, h.fbase, h.ne, row_set h.st 3 _, row_far h.ne h.fl, h.fc, fun k x hx => own_far (h.own k x hx) (h.sg k x hx), h.sg, h.sf, h.ap⟩
theorem SN.putOff (h : SN W g room off armed ops f fcap r xs w) (v : Bool) : SN W g room v armed ops f fcap r xs (w.setCell ⟨g, 2, none⟩ (.bool v)) :=
 ⟨gb_set h.below (.inl rfl) (isT_st h.st) _ _, h.fbase, h.ne, row_set h.st 2 _, row_far h.ne h.fl, h.fc, fun k x hx => own_far (h.own k x hx) (h.sg k x hx), h.sg, h.sf, h.ap⟩
theorem SN.g0 (h : SN W g room off armed ops f fcap r xs w) : w.cell? ⟨g, 0, none⟩ = some (.int .i64 room) := row_cells h.st 0 _ rfl
theorem SN.g1 (h : SN W g room off armed ops f fcap r xs w) : w.cell? ⟨g, 1, none⟩ = some (.slice (some ⟨f, 0, none⟩) xs.length fcap) := row_cells h.st 1 _ rfl
theorem SN.g2 (h : SN W g room off armed ops f fcap r xs w) : w.cell? ⟨g, 2, none⟩ = some (.bool off) := row_cells h.st 2 _ rfl
theorem SN.g3 (h : SN W g room off armed ops f fcap r xs w) : w.cell? ⟨g, 3, none⟩ = some (.int .i64 armed) := row_cells h.st 3 _ rfl
theorem SN.g4 (h : SN W g room off armed ops f fcap r xs w) : w.cell? ⟨g, 4, none⟩ = some (.int .i64 ops) := row_cells h.st 4 _ rfl
theorem SN.gf (h : SN W g room off armed ops f fcap r xs w) (i : Nat) : w.frozen? ⟨g, i, none⟩ = false := row_frozen h.st i
end
theorem flat_set (xs : List Fil) (r : List Value) (k : Nat) (x y : Fil) (h : xs[k]? = some x) (j : Nat) (hj : j < 3) (v : Value) (hy : (flC3 x).set j v = flC3 y) : (flat xs ++ r).set (k * 3 + j) v = flat (xs.set k y) ++ r := by
 induction xs generalizing k with
 | nil => simp at h
 | cons z s ih =>
  rw [flat, List.append_assoc]
  rcases k with _ | k
  ·simp at h; subst h
   rw [Nat.zero_mul, Nat.zero_add, List.set_append_left _ _ (by simp [flC3]; omega), hy, List.set_cons_zero, flat, List.append_assoc]
  ·rw [List.set_append_right _ _ (by simp [flC3]; omega), show (k + 1) * 3 + j - (flC3 z).length = k * 3 + j by simp [flC3]; omega, ih k (by simpa using h), List.set_cons_succ, flat, List.append_assoc]
theorem set_cases {xs : List Fil} {k j : Nat} {y z : Fil} (h : (xs.set k y)[j]? = some z) : (j = k ∧ z = y) ∨ (j ≠ k ∧ xs[j]? = some z) := by
 rw [List.getElem?_set] at h
 by_cases e : k = j
 ·rw [if_pos e] at h
  by_cases e2 : k < xs.length
  ·rw [if_pos e2] at h; injection h with h; exact .inl ⟨e.symm, h.symm⟩
  ·rw [if_neg e2] at h; cases h
 ·rw [if_neg e] at h; exact .inr ⟨fun e2 => e e2.symm, h⟩
section
variable {W : Bs} {g f fcap : Nat} {room armed ops : Int} {off : Bool} {r : List Value} {xs : List Fil} {w w' : World}
theorem SN.putDu (h : SN W g room off armed ops f fcap r xs w) (k : Nat) (x : Fil) (hx : xs[k]? = some x) (v : Nat) : SN W g room off armed ops f fcap r (xs.set k { x with du := v }) (w.setCell ⟨f, k * 3 + 2, none⟩ (.int .i64 (v : Nat))) := by
 have hcase : ∀ (j : Nat) (z : Fil), (xs.set k { x with du := v })[j]? = some z → ∃ u, xs[j]? = some u ∧ z.A = u.A ∧ z.l = u.l ∧ z.cap = u.cap := fun j z hz => by
  rcases set_cases hz with ⟨rfl, rfl⟩ | ⟨-, h1⟩
  ·exact ⟨x, hx, rfl, rfl, rfl⟩
  ·exact ⟨z, h1, rfl, rfl, rfl⟩
 refine ⟨gb_set h.below (.inr h.fbase) (isT_fl h.fl) _ _, h.fbase, h.ne, by rw [List.length_set]; exact row_far (Ne.symm h.ne) h.st, ?_, by rw [List.length_set]; exact h.fc, fun j z hz => ?_, fun j z hz => ?_, fun j z hz => ?_, fun i j y z hij hy hz => ?_⟩
 ·rw [← flat_set xs r k x { x with du := v } hx 2 (by decide) (.int .i64 (v : Nat)) rfl]; exact row_set h.fl _ _
 ·obtain ⟨u, hu, e1, e2, e3⟩ := hcase j z hz; rw [e1, e2, e3]; exact own_far (h.own j u hu) (h.sf j u hu)
 ·obtain ⟨u, hu, e1, -⟩ := hcase j z hz; rw [e1]; exact h.sg j u hu
 ·obtain ⟨u, hu, e1, -⟩ := hcase j z hz; rw [e1]; exact h.sf j u hu
 ·obtain ⟨u, hu, e1, -⟩ := hcase i y hy; obtain ⟨u', hu', e1', -⟩ := hcase j z hz; rw [e1, e1']; exact h.ap i j u u' hij hu hu'
theorem operate_N {e armed' : Int} {off' : Bool} (w : World) (hs : SN W g room false armed ops f fcap r xs w) (ho : Op1 armed e armed' off') (h : 0 ≤ ops ∧ ops < 1000000000) (ha : armed < 1000000000) :
  Calls Tryz.prog 28 #[.pointer (some ⟨g, 0, none⟩)] w fun x w' => x = .returned (.int .i64 e) ∧ SN W g room off' armed' (ops + 1) f fcap r xs w' := by
 rcases ho.out with ⟨rfl, rfl, rfl, rfl⟩ | ⟨h2, rfl, rfl, rfl⟩ | ⟨rfl, rfl, rfl, rfl⟩
 ·refine (operate_0 g ops h w hs.g3 hs.g4 (hs.gf 4)).mono ?_
  rintro x w' ⟨rfl, rfl⟩
  exact ⟨rfl, hs.putOps _⟩
 ·refine (operate_n g ops armed h ⟨h2, ha⟩ w hs.g3 hs.g4 (hs.gf 3) (hs.gf 4)).mono ?_
  rintro x w' ⟨rfl, rfl⟩
  exact ⟨rfl, (hs.putOps _).putArmed _⟩
 ·refine (operate_1 g ops _ h w hs.g2 hs.g3 hs.g4 (hs.gf 2) (hs.gf 3) (hs.gf 4)).mono ?_
  rintro x w' ⟨rfl, rfl⟩
  exact ⟨rfl, ((hs.putOps _).putArmed _).putOff _⟩
structure There (xs : List Fil) (t : ByteArray) (lo : Nat) (x : Fil) : Prop where
 size : t.size ≤ 4611686018427387904
 form : formK t = true
 place : Place xs t lo
 get : xs[lo]? = some x
 eq : cmpKF x.name t = 0
theorem There.isAt {t : ByteArray} {lo : Nat} {x : Fil} (h : There xs t lo x) : isAt xs t lo = true := by unfold Proofs.YtjldamkmdkaiiaaGreatDoor.isAt; rw [h.get]; simp [h.eq]
theorem There.lt {t : ByteArray} {lo : Nat} {x : Fil} (h : There xs t lo x) : lo < xs.length := (List.getElem?_eq_some_iff.1 h.get).1
theorem place_yes {t : ByteArray} {lo : Nat} {x : Fil} (hn : xs.length ≤ 1000) (w : World) (hs : Hid (SN W g room false armed ops f fcap r xs w)) (ht : Hid (There xs t lo x)) :
  Calls Tryz.prog 50 #[.pointer (some ⟨g, 0, none⟩), .string t] w fun e w' => e = .returned (.tuple #[.int .i64 lo, .int .i64 0]) ∧ Below w.heap.size w w' := by
 refine (place_any g f fcap xs t xs.length (Lib.hid rfl) hn lo (Lib.hid ht.out.place) false w hs.out.g1 hs.out.g2 (Lib.hid hs.out.files)).mono ?_
 rintro e w' ⟨rfl, hb⟩
 exact ⟨by rw [ht.out.form, ht.out.isAt]; rfl, hb⟩
set_option maxHeartbeats 2000000 in
theorem read_yes {t : ByteArray} {lo : Nat} {x : Fil} (hn : xs.length ≤ 1000) (w : World) (hl : x.l.length ≤ 100000000) (hs : Hid (SN W g room false armed ops f fcap r xs w)) (ht : Hid (There xs t lo x)) :
  Calls Tryz.prog 61 #[.pointer (some ⟨g, 0, none⟩), .string t] w fun e w' => ∃ B c, e = .returned (.tuple #[.slice B x.l.length c, .int .i64 0]) ∧ OwnS w' w.heap.size B x.l.length c x.l ∧ Below w.heap.size w w' := by
 have hlo := ht.out.lt
 go_enter Tryz.func61, Tryz.ntmps61
 go_wp2_with (first
  | (go_at_call 50; refine (place_yes hn _ hs ht).mono ?_; rintro z w1 ⟨rfl, hb⟩; have HS1 := Lib.hid (hs.out.next hb); have HB := Lib.hid hb; have c1 := HS1.out.g1; have c2 := (HS1.out.files lo x ht.out.get).2.2.1; clear hb)
  | (go_at_call 74; refine (clone_anyF x.A x.l x.l.length x.cap (Lib.hid rfl) (by omega) _ (Lib.hid (HS1.out.own lo x ht.out.get).byAt)).mono ?_; rintro z w2 ⟨B, c, rfl, own, hb⟩; have HO := Lib.hid own; have HB2 := Lib.hid hb; clear own hb))
 go_ret2
 exact ⟨B, c, rfl, HO.out.more HB.out.size, below_to HB.out HB2.out⟩
end
end Go.Proofs.YtjldamkmdkaiiaaGreatDoor
