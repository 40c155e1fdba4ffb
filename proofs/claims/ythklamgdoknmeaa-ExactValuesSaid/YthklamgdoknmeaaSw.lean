/-
  The walks of package exact.
-/
import Derived.Test.YthklamgdoknmeaaWm
import Derived.Test.YthklamgdoknmeaaSb
import Derived.Test.YthklamgdoknmeaaLen
import Derived.Laws.Rows
import Derived.Laws.Externs
import Derived.Outline
import Derived.Deep.WholeRow
import Derived.Lib.Hide
set_option linter.unusedSimpArgs false
set_option linter.unusedVariables false
set_option maxRecDepth 8000
namespace Go.Proofs.Ythklamgdoknmeaa
open Go.RowKit Sm

def sub64Entry : Array Value → Sem Value := fun args => do
  let (x, y, b) ← Extern.MathBitsCarry.three "Sub64" args
  pure (Extern.MathBitsCarry.pair ((x + Extern.MathBitsCarry.m64 - y - b) % Extern.MathBitsCarry.m64) (if x < y + b then 1 else 0))
theorem sub64_run (x y b : Nat) (hb : b ≤ 1) (w : World) : (callFunc 88 #[.int .u64 x, .int .u64 y, .int .u64 b]).run Try.prog w =
    .ok (.value (.tuple #[.int .u64 (((x + 18446744073709551616 - y - b) % 18446744073709551616 : Nat) : Int), .int .u64 ((if x < y + b then 1 else 0 : Nat) : Int)])) w := by
  rw [run_callFunc_extern Try.func88 (by kernel_rfl) (by kernel_rfl) (by kernel_rfl) (e := sub64Entry) (by kernel_rfl)]
  have : b = 0 ∨ b = 1 := by omega
  rcases this with rfl | rfl <;> rfl

/-! Whole rows, in and out of a block that is known -/
theorem u35 : Try.prog.underlying 25 = some (.array 35 24) := by kernel_rfl
theorem i35 : (Try.prog.info? 25).map (·.size) = some 35 := by kernel_rfl
theorem i35' (f : Nat → Nat) : (Try.prog.info? 25).map (·.size) = some (A35 f).size := by rw [i35, A35_size]
theorem one35 (f : Nat → Nat) : (A35 f).all (·.oneCell') = true := by
  unfold A35; rw [Array.all_eq_true_iff_forall_mem]; intro v hv
  simp only [Array.mem_ofFn] at hv
  obtain ⟨i, rfl⟩ := hv
  rfl
theorem zeros35 : (#[Value.int .u64 0, .int .u64 0, .int .u64 0, .int .u64 0, .int .u64 0, .int .u64 0, .int .u64 0, .int .u64 0, .int .u64 0, .int .u64 0, .int .u64 0, .int .u64 0, .int .u64 0, .int .u64 0, .int .u64 0, .int .u64 0, .int .u64 0, .int .u64 0, .int .u64 0, .int .u64 0, .int .u64 0, .int .u64 0, .int .u64 0, .int .u64 0, .int .u64 0, .int .u64 0, .int .u64 0, .int .u64 0, .int .u64 0, .int .u64 0, .int .u64 0, .int .u64 0, .int .u64 0, .int .u64 0, .int .u64 0] : Array Value) = A35 (fun _ => 0) := by
  unfold A35; rfl

/-- Where block g is known, it is read whole. -/
theorem load35 (W : World) (g : Nat) (f : Nat → Nat) (t : TypeId) (h : W.heap[g]? = some (.cells (A35 f) t (0, 0))) :
    (Instr.loadAt 25 (.pointer (some ⟨g, 0, none⟩))).run Try.prog W = .ok (.agg (A35 f)) W := by
  simp only [Instr.loadAt, Instr.sureAddr, Sem.run_bind, Sem.run_pure, Result.andThen_ok, run_loadVar_row W g t _ _ (0, 0) _ h u35 rfl (i35' f)]

/-- A result that lies in a known block. -/
theorem post_row {P : Program} {fn : Func} {R : Ending → World → Prop} {a : Act} {w : World} (p : Tmp) (ty : TypeId) (h : fn.results = #[.cell p ty]) (hd : a.defers = []) (g : Nat) (t : TypeId) (cs : Array Value) (fr : Nat × Nat) (d : TypeDesc)
    (hp : a.tmps.getD p undef = .pointer (some ⟨g, 0, none⟩)) (hg : w.heap[g]? = some (.cells cs t fr))
    (hu : P.underlying ty = some d) (hr : (match d with | .struct _ | .array _ _ => true | _ => false) = true) (hi : (P.info? ty).map (·.size) = some cs.size)
    (hR : R (.returned (.agg cs)) w) : bodyPost P fn R .ret a w := ⟨hd, _, results_cell_row h a.tmps w g t cs fr d hp hg hu hr hi, hR⟩
theorem below_setRow {B : Nat} {a w : World} (h : Below B a w) {g : Nat} (hg : B ≤ g) (cs : Array Value) : Below B a (w.setRow g cs) :=
  h.trans ⟨rfl, rfl, rfl, by simp, fun k hk => setRow_other w g k cs (by omega)⟩
theorem negStep_run (n N k : Nat) (hn : n ≤ top) (hN : N = neg n) (hk : k < 35) (w : World) : (callFunc 88 #[.int .u64 0, .int .u64 (wd n k : Nat), .int .u64 (bor n k : Nat)]).run Try.prog w =
    .ok (.value (.tuple #[.int .u64 (wd N k : Nat), .int .u64 (bor n (k + 1) : Nat)])) w := by
  have h := sub64_run 0 (wd n k) (bor n k) (bor_le n k) w
  rw [← wd_neg n k hn hk, ← bor_succ, ← hN] at h
  exact h

set_option maxHeartbeats 400000 in
theorem negated_at (n N : Nat) (HN : Hid (n ≤ top ∧ N = neg n)) (w : World) :
    Calls Try.prog 75 #[.agg (A35 (wd n))] w fun e w' => e = .returned (.agg (A35 (wd N))) ∧ Below w.heap.size w w' := by
  go_enter Try.func75, Try.ntmps75
  go_wp2
  go_loopw [3, 5] (fun c i wr => ∃ k : Nat, k ≤ 35 ∧ i = .int .i64 k ∧ c = .int .u64 (bor n k : Nat) ∧ wr = (w.alloc (.cells (A35 (mix k N n)) 25)).alloc (.cells (A35 (fun _ => 0)) 25)) (fun _ i _ => 35 - (intOf i).toNat)
  case atStart => exact ⟨0, by omega, rfl, by rw [bor_zero]; rfl, by rw [mix_zero, zeros35]⟩
  case round =>
    obtain ⟨k, hk, rfl, rfl, rfl⟩ := hrel
    by_cases hlt : k < 35
    · have hg := mix_get k N n hlt
      have hs := negStep_run n N k HN.out.1 HN.out.2 hlt
      have HS := Lib.hid (mix_set k N n)
      go_wp2
      go_roundw
      case rel => exact ⟨k + 1, by omega, by go_num, rfl, by rw [HS.out]⟩
      case measure => simp [intOf]; omega
    · obtain rfl : k = 35 := by omega
      rw [mix_all]
      have hh := heap_alloc2_old w (.cells (A35 (wd N)) 25) (.cells (A35 (fun _ => 0)) 25)
      have hq := heap_alloc2_new w (.cells (A35 (wd N)) 25) (.cells (A35 (fun _ => 0)) 25)
      have H1 := Lib.hid hh
      have H2 := Lib.hid hq
      clear hh hq
      go_wp2_with (first
        | refine wpList_load_row rfl 25 (.tmp 1) rfl w.heap.size rfl _ (A35 (wd N)) (0, 0) _ H1.out u35 rfl (i35' _) ?_
        | refine wpList_store_row rfl 25 (.tmp 2) (.tmp 19) rfl (w.heap.size + 1) (A35 (wd N)) rfl rfl _ _ H2.out (i35' _) (by rw [A35_size, A35_size]) (one35 _) ?_)
      exact post_row 2 25 Try.results75 rfl (w.heap.size + 1) 25 _ (0, 0) _ rfl (setRow_heap _ _ _ _ _ _ H2.out) u35 rfl (i35' _)
        ⟨rfl, below_setRow (((Below.refl _ _).alloc (Nat.le_refl _) _).alloc (by simp) _) (by omega) _⟩
theorem negated_any (n : Nat) (hn : n ≤ top) (w : World) :
    Calls Try.prog 75 #[.agg (A35 (wd n))] w fun e w' => e = .returned (.agg (A35 (wd (neg n)))) ∧ Below w.heap.size w w' := negated_at n (neg n) ⟨hn, rfl⟩ w

/-! bitLength, bitsFrom, anyBelow -/
theorem or_words (x y r : Nat) (hr : r ≤ 64) (hx : x < 18446744073709551616) : bits .or .u64 ((x : Int) / 2 ^ r) (IntKind.u64.wrap ((y : Int) * 2 ^ (64 - r))) = ((x / 2 ^ r ||| (y * 2 ^ (64 - r)) % 18446744073709551616 : Nat) : Int) := by
  have h := bits_or_u64_nat (x / 2 ^ r) ((y * 2 ^ (64 - r)) % 18446744073709551616) (Nat.lt_of_le_of_lt (Nat.div_le_self _ _) hx) (Nat.mod_lt _ (by decide))
  rw [← h, IntKind.wrap_u64]
  congr 1
set_option maxHeartbeats 400000 in
theorem bitsFrom_low (n s : Nat) (hs : s / 64 + 1 < 35) (w : World) :
    Calls Try.prog 77 #[.agg (A35 (wd n)), .int .i64 s] w fun e w' => e = .returned (.int .u64 (n / 2 ^ s % 18446744073709551616 : Nat)) ∧ Below w.heap.size w w' := by
  have hg := A35_get (wd n) (s / 64) (by omega)
  have hg2 := A35_get (wd n) (s / 64 + 1) hs
  have H := Lib.hid ((or_words (wd n (s / 64)) (wd n (s / 64 + 1)) (s % 64) (by omega) (wd_lt _ _)).trans (congrArg Int.ofNat (bits_low n s)))
  go_enter Try.func77, Try.ntmps77
  go_wp2
  go_ret
  exact ⟨ret_eq (congrArg (Value.int IntKind.u64) H.out), (Below.refl _ _).alloc (Nat.le_refl _) _⟩
set_option maxHeartbeats 400000 in
theorem bitsFrom_high (n s : Nat) (hs : 35 ≤ s / 64 + 1) (h2 : s / 64 < 35) (hn : Hid (n < top)) (w : World) :
    Calls Try.prog 77 #[.agg (A35 (wd n)), .int .i64 s] w fun e w' => e = .returned (.int .u64 (n / 2 ^ s % 18446744073709551616 : Nat)) ∧ Below w.heap.size w w' := by
  have hg := A35_get (wd n) (s / 64) h2
  have H := Lib.hid (congrArg Int.ofNat (bits_high n s hn.out hs h2))
  go_enter Try.func77, Try.ntmps77
  go_wp2
  go_ret
  refine ⟨ret_eq (congrArg (Value.int IntKind.u64) ?_), (Below.refl _ _).alloc (Nat.le_refl _) _⟩
  have h := H.out
  rw [show Int.ofNat (wd n (s / 64) / 2 ^ (s % 64)) = ((wd n (s / 64) : Nat) : Int) / 2 ^ (s % 64) by rw [Int.ofNat_eq_natCast, Int.natCast_ediv, Int.natCast_pow]; rfl] at h
  exact h
theorem bitsFrom_any (n s : Nat) (hs : s < 2240) (hn : n < top) (w : World) :
    Calls Try.prog 77 #[.agg (A35 (wd n)), .int .i64 s] w fun e w' => e = .returned (.int .u64 (n / 2 ^ s % 18446744073709551616 : Nat)) ∧ Below w.heap.size w w' := by
  by_cases h : s / 64 + 1 < 35
  · exact bitsFrom_low n s h w
  · exact bitsFrom_high n s (by omega) (by omega) hn w

theorem shl_word (x r : Nat) : (IntKind.u64.wrap ((x : Int) * 2 ^ r) != 0) = decide (x * 2 ^ r % 18446744073709551616 ≠ 0) := by
  rw [IntKind.wrap_u64, Bool.eq_iff_iff, bne_iff_ne, decide_eq_true_eq]
  have e : (x : Int) * 2 ^ r % 18446744073709551616 = ((x * 2 ^ r % 18446744073709551616 : Nat) : Int) := by
    rw [Int.natCast_emod, Int.natCast_mul, Int.natCast_pow]; rfl
  rw [e]; omega
theorem cast_ne (x : Nat) : ((x : Int) != 0) = decide (x ≠ 0) := by rw [Bool.eq_iff_iff, bne_iff_ne, decide_eq_true_eq]; omega

set_option maxHeartbeats 400000 in
theorem anyBelow_at (n s : Nat) (b : Bool) (hs : s < 2240) (hb : Hid (b = decide (n % 2 ^ s ≠ 0))) (w : World) :
    Calls Try.prog 90 #[.agg (A35 (wd n)), .int .i64 s] w fun e w' => e = .returned (.bool b) ∧ Below w.heap.size w w' := by
  go_enter Try.func90, Try.ntmps90
  go_wp2
  go_loop [8] (fun i => ∃ k : Nat, k ≤ s / 64 ∧ i = .int .i64 k ∧ Hid (n % pw k = 0)) (fun i => s / 64 - (intOf i).toNat)
  case atStart => exact ⟨0, by omega, rfl, by rw [pw_zero]; exact Nat.mod_one _⟩
  case round =>
    obtain ⟨k, hk, rfl, hz⟩ := hrel
    have hg := A35_get (wd n) k (by omega)
    have hg2 := A35_get (wd n) (s / 64) (by omega)
    by_cases hlt : k < s / 64
    · have H := Lib.hid (cast_ne (wd n k))
      cases hx : ((wd n k : Int) != 0)
      · go_wp2
        go_round
        case rel =>
          refine ⟨k + 1, by omega, by go_num, ?_⟩
          have h := H.out
          rw [hx] at h
          have h2 := of_decide_eq_false h.symm
          exact zero_step n k hz.out (by omega)
        case measure => simp [intOf]; omega
      · go_wp2
        go_ret
        refine ⟨ret_eq (congrArg Value.bool ?_), (Below.refl _ _).alloc (Nat.le_refl _) _⟩
        have h := H.out
        rw [hx] at h
        rw [hb.out]
        exact (decide_eq_true (below_word n s k hlt (of_decide_eq_true h.symm))).symm
    · obtain rfl : k = s / 64 := by omega
      have H := Lib.hid (shl_word (wd n (s / 64)) (64 - s % 64))
      go_wp2
      go_ret
      refine ⟨ret_eq (congrArg Value.bool ?_), (Below.refl _ _).alloc (Nat.le_refl _) _⟩
      have h := H.out
      exact h.trans ((decide_eq_decide.2 (not_congr (below_last n s hz.out))).trans hb.out.symm)
theorem anyBelow_any (n s : Nat) (hs : s < 2240) (w : World) :
    Calls Try.prog 90 #[.agg (A35 (wd n)), .int .i64 s] w fun e w' => e = .returned (.bool (decide (n % 2 ^ s ≠ 0))) ∧ Below w.heap.size w w' :=
  anyBelow_at n s _ hs rfl w

set_option maxHeartbeats 400000 in
theorem bitLength_at (n L : Nat) (HL : Hid (L = bitLen (n % pw 35))) (w : World) :
    Calls Try.prog 76 #[.agg (A35 (wd n))] w fun e w' => e = .returned (.int .i64 L) ∧ Below w.heap.size w w' := by
  go_enter Try.func76, Try.ntmps76
  go_wp2
  go_loop [3, 5] (fun c i => ∃ k : Nat, k ≤ 35 ∧ i = .int .i64 k ∧ ∃ m : Nat, Hid (m = bitLen (n % pw k)) ∧ c = .int .i64 m) (fun _ i => 35 - (intOf i).toNat)
  case atStart => exact ⟨0, by omega, rfl, 0, (len_none n).symm, rfl⟩
  case round =>
    obtain ⟨k, hk, rfl, m, hm, rfl⟩ := hrel
    by_cases hlt : k < 35
    · have hg := A35_get (wd n) k hlt
      have H := Lib.hid (cast_ne (wd n k))
      have hw := wd_lt n k
      have hl := wd_len n k
      cases hx : ((wd n k : Int) != 0)
      · go_wp2
        go_round
        case rel =>
          refine ⟨k + 1, by omega, by go_num, m, ?_, rfl⟩
          have h := H.out
          rw [hx] at h
          have h2 := of_decide_eq_false h.symm
          exact hm.out.trans (len_zero_word n k (by omega)).symm
        case measure => simp [intOf]; omega
      · go_wp2_with (go_at_call 89; refine (len64_any _ hw _).mono ?_; rintro e w' ⟨rfl, rfl⟩)
        go_round
        case rel =>
          refine ⟨k + 1, by omega, by go_num, k * 64 + bitLen (wd n k), ?_, by go_num⟩
          have h := H.out
          rw [hx] at h
          exact (len_word n k (of_decide_eq_true h.symm)).symm
        case measure => simp [intOf]; omega
    · obtain rfl : k = 35 := by omega
      go_wp2
      go_ret
      exact ⟨ret_eq (congrArg (fun z : Nat => Value.int IntKind.i64 (z : Int)) (hm.out.trans HL.out.symm)), (Below.refl _ _).alloc (Nat.le_refl _) _⟩
theorem bitLength_any (n : Nat) (hn : n < top) (w : World) :
    Calls Try.prog 76 #[.agg (A35 (wd n))] w fun e w' => e = .returned (.int .i64 (bitLen n : Nat)) ∧ Below w.heap.size w w' :=
  bitLength_at n (bitLen n) (len_all n hn).symm w

/-- Since w0 nothing old has turned, and block g is known. -/
structure Kp (w0 : World) (g : Nat) (cs : Array Value) (t : TypeId) (w : World) : Prop where
  below : Below w0.heap.size w0 w
  row : w.heap[g]? = some (.cells cs t (0, 0))
theorem lt_of_row {w : World} {g : Nat} {o : Obj} (h : w.heap[g]? = some o) : g < w.heap.size := by
  rcases Nat.lt_or_ge g w.heap.size with h1 | h1
  · exact h1
  · rw [Array.getElem?_eq_none h1] at h; cases h
theorem Kp.next {w0 : World} {g : Nat} {cs : Array Value} {t : TypeId} {w w' : World} (h : Kp w0 g cs t w) (hb : Below w.heap.size w w') : Kp w0 g cs t w' :=
  ⟨h.below.trans (hb.mono h.below.size), (hb.block g (lt_of_row h.row)).trans h.row⟩
theorem Kp.start (w : World) (cs : Array Value) (t : TypeId) : Kp w w.heap.size cs t (w.alloc (.cells cs t)) :=
  ⟨(Below.refl _ _).alloc (Nat.le_refl _) _, heap_alloc_new w _⟩

set_option maxHeartbeats 400000 in
theorem roundsUp_zero (n : Nat) (w : World) :
    Calls Try.prog 78 #[.agg (A35 (wd n)), .int .i64 0] w fun e w' => e = .returned (.bool false) ∧ Below w.heap.size w w' := by
  go_enter Try.func78, Try.ntmps78
  go_wp2
  go_ret
  exact ⟨rfl, (Below.refl _ _).alloc (Nat.le_refl _) _⟩

theorem wpList_load_row_w {P : Program} {ops : Array Oper} {rest : List Oper} {o : Oper} {a : Act} {w : World} {Q : Exit → Act → World → Prop} (hw : Region.wanted o (yielded ops a.tmps) = true) (ty : TypeId) (x : Operand) (ho : o.op = .load ty x)
    (g : Nat) (hx : a.eval x = .pointer (some ⟨g, 0, none⟩)) (t : TypeId) (cs : Array Value) (fr : Nat × Nat) (d : TypeDesc) (hg : w.heap[g]? = some (.cells cs t fr))
    (hu : P.underlying ty = some d) (hd : (match d with | .struct _ | .array _ _ => true | _ => false) = true) (hi : (P.info? ty).map (·.size) = some cs.size)
    (h : wpList P ops Q rest (a.put o.dst (.agg cs)) w) : wpList P ops Q (o :: rest) a w :=
  wpList_step fun K hK => by rw [if_pos hw]; exact wp_load_row ty x ho g hx t cs fr d hg hu hd hi (hK _ _ h)

def BfGives (n : Nat) (S : Int) (X : Int) : Prop := ∀ w, Calls Try.prog 77 #[.agg (A35 (wd n)), .int .i64 S] w fun e w' => e = .returned (.int .u64 X) ∧ Below w.heap.size w w'
def AbGives (n : Nat) (S : Int) (b : Bool) : Prop := ∀ w, Calls Try.prog 90 #[.agg (A35 (wd n)), .int .i64 S] w fun e w' => e = .returned (.bool b) ∧ Below w.heap.size w w'
theorem BfGives.at {n : Nat} {S : Int} {X : Int} (h : BfGives n S X) (w : World) : Calls Try.prog 77 #[.agg (A35 (wd n)), .int .i64 S] w fun e w' => e = .returned (.int .u64 X) ∧ Below w.heap.size w w' := h w
theorem AbGives.at {n : Nat} {S : Int} {b : Bool} (h : AbGives n S b) (w : World) : Calls Try.prog 90 #[.agg (A35 (wd n)), .int .i64 S] w fun e w' => e = .returned (.bool b) ∧ Below w.heap.size w w' := h w

set_option maxHeartbeats 400000 in
theorem roundsUp_core (n s : Nat) (X0 X1 : Int) (b0 b1 b2 : Bool) (hs : s + 1 < 2240) (h1 : BfGives n (s : Int) X0) (h2 : BfGives n ((s : Int) + 1) X1) (h3 : AbGives n (s : Int) b2)
    (e0 : (bits .and .u64 X0 1 == 0) = b0) (e1 : (bits .and .u64 X1 1 == 1) = b1) (w : World) :
    Calls Try.prog 78 #[.agg (A35 (wd n)), .int .i64 ((s : Int) + 1)] w fun e w' => e = .returned (.bool (!b0 && (b1 || b2))) ∧ Below w.heap.size w w' := by
  have h0 : ((s : Int) + 1 == 0) = false := by rw [beq_eq_false_iff_ne]; omega
  have hk := Kp.start w (A35 (wd n)) 25
  cases b0 <;> cases b1 <;> cases b2
  all_goals
    go_enter Try.func78, Try.ntmps78
    go_wp2_with (first
      | (refine wpList_load_row_w rfl 25 (.tmp 2) rfl w.heap.size rfl _ (A35 (wd n)) (0, 0) _ hk.row u35 rfl (i35' _) ?_)
      | (go_at_call 90; (with_reducible refine (h3.at _).mono ?_); rintro e w' ⟨rfl, hb⟩; replace hk := hk.next hb; clear hb)
      | (go_at_call 77; (first | (with_reducible refine (h1.at _).mono ?_) | (with_reducible refine (h2.at _).mono ?_)); rintro e w' ⟨rfl, hb⟩; replace hk := hk.next hb; clear hb))
    go_ret
    exact ⟨rfl, hk.below⟩

end Go.Proofs.Ythklamgdoknmeaa
