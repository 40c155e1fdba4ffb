/-
  A sum as a struct: its cells, and the walks of Same, Any, Join.
-/
import Derived.Test.YthklamgdoknmeaaSn
import Derived.RegionTactic
import Derived.ChangeAlike
import Derived.StillTailTactics
import Derived.BigQuiet
import Derived.Deep.MidRow
set_option linter.unusedSimpArgs false
set_option linter.unusedVariables false
set_option maxRecDepth 8000
namespace Go.Proofs.Ythklamgdoknmeaa.Sm
/-- A struct's cells. -/
def P36 (f : Nat → Nat) (h : Nat) : Array Value := (A35 f).push (.int .u8 h)
theorem S36_eq (n h : Nat) : S36 n h = P36 (wd n) h := by unfold S36 P36; rfl
theorem P36_size (f : Nat → Nat) (h : Nat) : (P36 f h).size = 36 := by unfold P36; rw [Array.size_push, A35_size]
theorem P36_has (f : Nat → Nat) (h : Nat) : (P36 f h)[35]? = some (.int .u8 h) := by
  unfold P36; rw [Array.getElem?_push, A35_size, if_pos rfl]
theorem P36_word (f : Nat → Nat) (h i : Nat) (hi : i < 35) : (P36 f h)[i]? = some (.int .u64 (f i)) := by
  unfold P36; rw [Array.getElem?_push, A35_size, if_neg (by omega), A35_get f i hi]
theorem P36_set (f : Nat → Nat) (h k x : Nat) (hk : k < 35) : (P36 f h).setIfInBounds k (.int .u64 (x : Int)) = P36 (fun i => if i = k then x else f i) h := by
  unfold P36
  rw [← A35_set]
  apply Array.ext_getElem?
  intro i
  by_cases e2 : i = 35
  · subst e2
    rw [Array.getElem?_setIfInBounds, if_neg (by omega), Array.getElem?_push, A35_size, if_pos rfl, Array.getElem?_push, Array.size_setIfInBounds, A35_size, if_pos rfl]
  · rw [Array.getElem?_setIfInBounds, Array.getElem?_push, A35_size, if_neg e2, Array.size_push, A35_size, Array.getElem?_push, Array.size_setIfInBounds, A35_size, if_neg e2, Array.getElem?_setIfInBounds, A35_size]
    by_cases e : k = i
    · rw [if_pos e, if_pos e, if_pos (by omega), if_pos (by omega)]
    · rw [if_neg e, if_neg e]
theorem P36_put (f : Nat → Nat) (h k : Nat) : (P36 f h).setIfInBounds 35 (.int .u8 (k : Int)) = P36 f k := by
  unfold P36
  apply Array.ext_getElem?
  intro i
  rw [Array.getElem?_setIfInBounds, Array.getElem?_push, Array.getElem?_push, A35_size, Array.size_push, A35_size]
  by_cases e : 35 = i
  · subst e; simp
  · rw [if_neg e, if_neg (fun h => e h.symm), if_neg (fun h => e h.symm)]
theorem P36_congr {f g : Nat → Nat} (h : Nat) (e : A35 f = A35 g) : P36 f h = P36 g h := by unfold P36; rw [e]
theorem mixP_zero (a b h : Nat) : P36 (mix 0 a b) h = P36 (wd b) h := by rw [mix_zero]
theorem mixP_all (a b h : Nat) : P36 (mix 35 a b) h = P36 (wd a) h := P36_congr h (mix_all a b)
theorem mixP_set (k a b h : Nat) (hk : k < 35) : (P36 (mix k a b) h).setIfInBounds k (.int .u64 (wd a k : Nat)) = P36 (mix (k + 1) a b) h := by
  rw [P36_set _ _ _ _ hk]
  refine P36_congr h ?_
  rw [← mix_set k a b, A35_set]
theorem mixP_get (k a b h : Nat) (hk : k < 35) : (P36 (mix k a b) h)[k]? = some (.int .u64 (wd b k : Nat)) := by
  rw [P36_word _ _ _ hk]; unfold mix; simp
theorem one36 (f : Nat → Nat) (h : Nat) : (P36 f h).all (·.oneCell') = true := by
  unfold P36
  rw [Array.all_push, one35 f]; rfl
theorem P36_inj {f g : Nat → Nat} {h k : Nat} (e : P36 f h = P36 g k) : A35 f = A35 g ∧ h = k := by
  unfold P36 at e
  have := Array.push_eq_push.1 e
  refine ⟨this.2, ?_⟩
  have h1 := this.1
  simp only [Value.int.injEq, true_and] at h1
  omega
attribute [irreducible] P36
end Go.Proofs.Ythklamgdoknmeaa.Sm
namespace Go.Proofs.Ythklamgdoknmeaa
open Go.RowKit Sm

theorem u27 : Try.prog.underlying 27 = some (.struct (Try.prog.fieldsOf 27)) := by kernel_rfl
theorem i36 (f : Nat → Nat) (h : Nat) : (Try.prog.info? 27).map (·.size) = some (P36 f h).size := by rw [P36_size]; kernel_rfl

set_option maxHeartbeats 400000 in
theorem any_any (n h : Nat) (w : World) :
    Calls Try.prog 19 #[.agg (P36 (wd n) h)] w fun e w' => e = .returned (.bool (bits .and .u8 (h : Int) 8 != 0)) ∧ Below w.heap.size w w' := by
  have hg := P36_has (wd n) h
  go_enter Try.func19, Try.ntmps19
  go_wp2
  go_ret
  exact ⟨rfl, (Below.refl _ _).alloc (Nat.le_refl _) _⟩

theorem add64_run (x y c : Nat) (hx : x < 18446744073709551616) (hc : c ≤ 1) (w : World) : (callFunc 80 #[.int .u64 x, .int .u64 y, .int .u64 c]).run Try.prog w =
    .ok (.value (.tuple #[.int .u64 (((x + y + c) % 18446744073709551616 : Nat) : Int), .int .u64 (((x + y + c) / 18446744073709551616 : Nat) : Int)])) w := by
  rw [run_callFunc_extern Try.func80 (by kernel_rfl) (by kernel_rfl) (by kernel_rfl) (e := add64Entry) (by kernel_rfl), run_add64 x y c (by omega) (by omega) (by omega) (by omega)]
  simp only [Result.andThen]
  congr 5 <;> omega
theorem addStep_run (a b r k : Nat) (hr : r = (a + b) % top) (hk : k < 35) (w : World) : (callFunc 80 #[.int .u64 (wd a k : Nat), .int .u64 (wd b k : Nat), .int .u64 (car a b k : Nat)]).run Try.prog w =
    .ok (.value (.tuple #[.int .u64 (wd r k : Nat), .int .u64 (car a b (k + 1) : Nat)])) w := by
  have h := add64_run (wd a k) (wd b k) (car a b k) (wd_lt _ _) (car_le a b k) w
  rw [← wd_sum a b k hk, ← car_succ, ← hr] at h
  exact h

theorem zeros36 : (#[Value.int .u64 0, .int .u64 0, .int .u64 0, .int .u64 0, .int .u64 0, .int .u64 0, .int .u64 0, .int .u64 0, .int .u64 0, .int .u64 0, .int .u64 0, .int .u64 0, .int .u64 0, .int .u64 0, .int .u64 0, .int .u64 0, .int .u64 0, .int .u64 0, .int .u64 0, .int .u64 0, .int .u64 0, .int .u64 0, .int .u64 0, .int .u64 0, .int .u64 0, .int .u64 0, .int .u64 0, .int .u64 0, .int .u64 0, .int .u64 0, .int .u64 0, .int .u64 0, .int .u64 0, .int .u64 0, .int .u64 0, .int .u8 0] : Array Value) = P36 (fun _ => 0) 0 := by
  unfold P36; rw [← zeros35]; rfl

@[go_sem] theorem setCell_drewN (w : World) (n : Nat) (a : Addr) (v : Value) : (w.drewN n).setCell a v = (w.setCell a v).drewN n := rfl
@[go_sem] theorem alloc_drewN (w : World) (n : Nat) (o : Obj) : (w.drewN n).alloc o = (w.alloc o).drewN n := rfl
theorem setRow_drewN (w : World) (n g : Nat) (c : Array Value) : (w.drewN n).setRow g c = (w.setRow g c).drewN n := rfl

theorem heap3_first (w : World) (A B C : Obj) (q : Nat) : ((((w.alloc A).alloc B).alloc C).drewN q).heap[w.heap.size]? = some A := by
  rw [World.heap_drewN, Below.heap_alloc _ _ _ (by simp; omega), heap_alloc2_old]
theorem heap3_last (w : World) (A B C : Obj) (q : Nat) : ((((w.alloc A).alloc B).alloc C).drewN q).heap[w.heap.size + 1 + 1]? = some C := by
  rw [World.heap_drewN]
  have h := heap_alloc_new ((w.alloc A).alloc B) C
  have e : ((w.alloc A).alloc B).heap.size = w.heap.size + 1 + 1 := by simp
  rwa [e] at h

set_option maxHeartbeats 1000000 in
theorem join_at (a b r ha hb hr : Nat) (HN : Hid (r = (a + b) % top)) (HO : bits .or .u8 (ha : Int) (hb : Int) = (hr : Nat)) (w : World) :
    Calls Try.prog 58 #[.agg (P36 (wd a) ha), .agg (P36 (wd b) hb)] w fun e w' => e = .returned (.agg (P36 (wd r) hr)) ∧ Below w.heap.size w w' := by
  have HO2 := Lib.hid HO
  clear HO
  go_enter Try.func58, Try.ntmps58
  go_wp2
  go_loopw [5, 7] (fun c i wr => ∃ k : Nat, k ≤ 35 ∧ i = .int .i64 k ∧ c = .int .u64 (car a b k : Nat) ∧ ∃ q : Nat, wr = (((w.alloc (.cells (P36 (mix k r a) ha) 27)).alloc (.cells (P36 (wd b) hb) 27)).alloc (.cells (P36 (fun _ => 0) 0) 27)).drewN q) (fun _ i _ => 35 - (intOf i).toNat)
  case atStart => exact ⟨0, by omega, rfl, by rw [car_zero]; rfl, 0, by rw [mixP_zero, zeros36]; rfl⟩
  case round =>
    obtain ⟨k, hk, rfl, rfl, q, rfl⟩ := hrel
    by_cases hlt : k < 35
    · have hg := mixP_get k r a ha hlt
      have hg2 := P36_word (wd b) hb k hlt
      have hs := addStep_run a b r k HN.out hlt
      have HS := Lib.hid (mixP_set k r a ha hlt)
      go_wp2
      go_region
      go_wp2
      go_roundw
      case rel => exact ⟨k + 1, by omega, by go_num, rfl, q + 1, by rw [HS.out]⟩
      case measure => simp [intOf]; omega
    · obtain rfl : k = 35 := by omega
      rw [mixP_all]
      have hg := P36_has (wd r) ha
      have hg2 := P36_has (wd b) hb
      have hp := P36_put (wd r) ha hr
      have ho := HO2.out
      go_wp2_with (first
        | refine wpList_load_row rfl 27 (.tmp 2) rfl w.heap.size rfl _ (P36 (wd r) hr) (0, 0) _ (heap3_first _ _ _ _ _) u27 rfl (i36 _ _) ?_
        | refine wpList_store_row rfl 27 (.tmp 4) (.tmp 33) rfl (w.heap.size + 1 + 1) (P36 (wd r) hr) rfl rfl _ _ (heap3_last _ _ _ _ _) (i36 _ _) (by rw [P36_size, P36_size]) (one36 _ _) ?_)
      exact post_row 4 27 Try.results58 rfl (w.heap.size + 1 + 1) 27 _ (0, 0) _ rfl (setRow_heap _ _ _ _ _ _ (heap3_last _ _ _ _ _)) u27 rfl (i36 _ _)
        ⟨rfl, below_setRow (below_drewN ((((Below.refl _ _).alloc (Nat.le_refl _) _).alloc (by simp) _).alloc (by simp; omega) _) _) (by omega) _⟩
theorem join_any (a b ha hb : Nat) (h1 : ha < 256) (h2 : hb < 256) (w : World) :
    Calls Try.prog 58 #[.agg (P36 (wd a) ha), .agg (P36 (wd b) hb)] w fun e w' => e = .returned (.agg (P36 (wd ((a + b) % top)) (ha ||| hb))) ∧ Below w.heap.size w w' :=
  join_at a b _ ha hb _ rfl (u8_or_nat ha hb h1 h2) w

/-! Same -/
theorem part_word (f : Nat → Nat) (i : Nat) (hi : i < 35) (w : World) : (part 24 (A35 f) (i * 1)).run Try.prog w = .ok (.int .u64 (f i)) w := by
  have h := A35_get f i hi
  rw [Nat.mul_one]
  unfold part
  simp [Sem.run_bind, h, isAgg, run_underlying Try.underlying24]
end Go.Proofs.Ythklamgdoknmeaa
