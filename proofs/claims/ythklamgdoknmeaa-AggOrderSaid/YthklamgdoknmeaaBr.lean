/-
  The contract of exact.Read.
-/
import Derived.Test.YthklamgdoknmeaaBb
set_option linter.unusedSimpArgs false
set_option linter.unusedVariables false
set_option maxRecDepth 8000
namespace Go.Proofs.Ythklamgdoknmeaa
open Go.RowKit Sm

theorem results_cell_tmp {P : Program} {fn : Func} {p q : Tmp} {ty : TypeId} (h : fn.results = #[.cell p ty, .tmp q]) (tmps : Array Value) (w : World) (g : Nat) (t : TypeId) (cs : Array Value) (fr : Nat × Nat) (d : TypeDesc)
    (hp : tmps.getD p undef = .pointer (some ⟨g, 0, none⟩)) (hg : w.heap[g]? = some (.cells cs t fr))
    (hu : P.underlying ty = some d) (hr : (match d with | .struct _ | .array _ _ => true | _ => false) = true) (hi : (P.info? ty).map (·.size) = some cs.size) :
    (results fn tmps).run P w = .ok (.tuple #[.agg cs, tmps.getD q undef]) w := by
  have hp' : tmps[p]?.getD undef = .pointer (some ⟨g, 0, none⟩) := by simpa using hp
  simp [results, h, hp', asAddr, run_loadVar_row w g t ty cs fr d hg hu hr hi]
theorem post_row2 {P : Program} {fn : Func} {R : Ending → World → Prop} {a : Act} {w : World} (p q : Tmp) (ty : TypeId) (h : fn.results = #[.cell p ty, .tmp q]) (hd : a.defers = []) (g : Nat) (t : TypeId) (cs : Array Value) (fr : Nat × Nat) (d : TypeDesc)
    (hp : a.tmps.getD p undef = .pointer (some ⟨g, 0, none⟩)) (hg : w.heap[g]? = some (.cells cs t fr))
    (hu : P.underlying ty = some d) (hr : (match d with | .struct _ | .array _ _ => true | _ => false) = true) (hi : (P.info? ty).map (·.size) = some cs.size)
    (hR : R (.returned (.tuple #[.agg cs, a.tmps.getD q undef])) w) : bodyPost P fn R .ret a w := ⟨hd, _, results_cell_tmp h a.tmps w g t cs fr d hp hg hu hr hi, hR⟩
theorem built36e : Try.prog.built 27 [] = some #[Value.int .u64 0, .int .u64 0, .int .u64 0, .int .u64 0, .int .u64 0, .int .u64 0, .int .u64 0, .int .u64 0, .int .u64 0, .int .u64 0, .int .u64 0, .int .u64 0, .int .u64 0, .int .u64 0, .int .u64 0, .int .u64 0, .int .u64 0, .int .u64 0, .int .u64 0, .int .u64 0, .int .u64 0, .int .u64 0, .int .u64 0, .int .u64 0, .int .u64 0, .int .u64 0, .int .u64 0, .int .u64 0, .int .u64 0, .int .u64 0, .int .u64 0, .int .u64 0, .int .u64 0, .int .u64 0, .int .u64 0, .int .u8 0] := by kernel_rfl
theorem wpList_build36e {ops : Array Oper} {rest : List Oper} {o : Oper} {a : Act} {w : World} {Q : Exit → Act → World → Prop} (hgd : o.guard = none) (ho : o.op = .build 27 #[])
    (h : wpList Try.prog ops Q rest (a.put o.dst (.agg (P36 (fun _ => 0) 0))) w) : wpList Try.prog ops Q (o :: rest) a w := by
  have e : (#[] : Array (Nat × Operand)).map (fun (i, x) => (i, a.eval x)) = #[] := by simp
  refine wpList_build hgd _ _ ho ?_ ?_
  · rw [e]
    show (Try.prog.built 27 []).isSome = true
    rw [built36e]; rfl
  · rw [e]
    show wpList _ _ _ _ (a.put o.dst (.agg ((Try.prog.built 27 []).getD #[]))) w
    rw [built36e, Option.getD_some, zeros36]
    exact h

/-- What a reading that is refused returns. -/
def RetX (w : World) (e : Ending) (w' : World) : Prop := e = .returned (.tuple #[.agg (P36 (fun _ => 0) 0), .int .i64 3]) ∧ Below w.heap.size w w'

set_option maxHeartbeats 2000000 in
theorem xread_size (a : Option Addr) (len cap : Nat) (hl : len = 0 ∨ 281 < len) (w : World) :
    Calls Try.prog 84 #[.slice a len cap] w (RetX w) := by
  have hk := Kp.start w (P36 (fun _ => 0) 0) 27
  by_cases h0 : len = 0
  all_goals
    (try subst h0)
    (try (have h1 : 281 < len := by omega))
    clear hl
    go_enter Try.func84, Try.ntmps84
    go_wp2_with (first | (refine wpList_build36e rfl rfl ?_) | (rw [zeros36]; refine wpList_store_row rfl 27 (.tmp 2) (.tmp 18) rfl w.heap.size (P36 (fun _ => 0) 0) rfl rfl _ _ hk.row (i36 _ _) rfl (one36 _ _) ?_; replace hk := hk.stored (Nat.le_refl _) (P36 (fun _ => 0) 0)))
    exact post_row2 2 3 27 Try.results84 rfl w.heap.size 27 _ (0, 0) _ rfl hk.row u27 rfl (i36 _ _) ⟨rfl, hk.below⟩

/-- The first byte, and the others. -/
structure Hd (w : World) (a : Option Addr) (len cap : Nat) (x : Nat) (r : List Nat) (g off : Nat) (A : Option Addr) (n C : Nat) : Prop where
  addr : a = some ⟨g, off, none⟩
  cell : w.cell? ⟨g, off, none⟩ = some (.int .u8 (x : Int))
  lt : g < w.heap.size
  run : ∀ w, (Instr.slice 29 (.slice a len cap) (some (.int .i64 1)) none none).run Try.prog w = .ok (.slice A n C) w
  rlen : Hid (n = r.length)
  rcap : n ≤ C
  byAt : Hid (ByAt w A r)
  xlt : x < 256
  all : Hid (len = 1 + n)
theorem hd_of (a : Option Addr) (x : Nat) (r : List Nat) (len cap : Nat) (hlen : Hid (len = (x :: r).length)) (hc : len ≤ cap) (w : World) (HA : Hid (ByAt w a (x :: r))) : ∃ g off A n C, Hd w a len cap x r g off A n C := by
  obtain ⟨hx, g, off, e, hg, hcell⟩ := HA.out 0 x rfl
  have h1 : 1 ≤ len := by rw [hlen.out, List.length_cons]; omega
  obtain ⟨A, C, r1, d1, d2, d3⟩ := cut_from a len cap 1 h1 hc
  have h := d3 w _ hlen.out HA.out
  exact ⟨g, off, A, len - 1, C, e, by rw [Nat.add_zero] at hcell; exact hcell, hg, r1, Lib.hid (by rw [hlen.out, List.length_cons]; omega), d1, Lib.hid (by simpa using h), hx, Lib.hid (by omega)⟩

set_option maxHeartbeats 2000000 in
theorem xread_bad (a : Option Addr) (len cap x : Nat) (r : List Nat) (g off : Nat) (A : Option Addr) (n C : Nat) (w : World) (H : Hid (Hd w a len cap x r g off A n C)) (hn : n ≤ 280)
    (hbad : spB r = true ∨ (spB r = false ∧ possB x ((n : Int) == 0) = false)) :
    Calls Try.prog 84 #[.slice a len cap] w (RetX w) := by
  have hk := Kp.start w (P36 (fun _ => 0) 0) 27
  have hadr := H.out.addr
  subst hadr
  have hlen := H.out.all.out
  subst hlen
  have c1 := H.out.run
  have hcell : (w.alloc (.cells (P36 (fun _ => 0) 0) 27)).cell? ⟨g, off, none⟩ = some (.int .u8 (x : Int)) := (World.cell?_alloc_lt w _ ⟨g, off, none⟩ H.out.lt).trans H.out.cell
  have HA : Hid (ByAt (w.alloc (.cells (P36 (fun _ => 0) 0) 27)) A r) := Lib.hid (H.out.byAt.out.keep ((Below.refl _ _).alloc (Nat.le_refl _) _))
  have HL := H.out.rlen
  have hC := H.out.rcap
  have hx := H.out.xlt
  have g0 : (0 : Int) < 1 + (n : Int) := by omega
  have g1 : (1 : Int) ≤ 1 + (n : Int) := by omega
  have t0 : ((1 : Int) + (n : Int) == 0) = false := by rw [beq_eq_false_iff_ne]; omega
  have t1 : ¬ (281 : Int) < 1 + (n : Int) := by omega
  rcases hbad with hs | ⟨hs, hp⟩
  all_goals
    have HS := Lib.hid hs
    clear hs
    go_enter Try.func84, Try.ntmps84
    go_wp2
    rw [zeros36]
    go_quiet (fail)
    have hk1 : Kp w w.heap.size (P36 (fun _ => 0) 0) 27 ((w.alloc (.cells (P36 (fun _ => 0) 0) 27)).drewN nq) := ⟨below_drewN hk.below nq, hk.row⟩
    clear hk
    go_wp2_with (first | (go_at_call 55; refine (spare_any A r n C HL (by omega) hC _ (drewN_by HA nq)).mono ?_; rw [HS.out]; rintro e w2 ⟨rfl, hb⟩; replace hk1 := hk1.next hb; clear hb) | (go_at_call 93; refine (possible_any x _ hx _).mono ?_; rintro e w3 ⟨rfl, rfl⟩) | (refine wpList_build36e rfl rfl ?_) | (refine wpList_store_row rfl 27 (.tmp 2) (.tmp 34) rfl w.heap.size (P36 (fun _ => 0) 0) rfl rfl _ _ hk1.row (i36 _ _) rfl (one36 _ _) ?_; replace hk1 := hk1.stored (Nat.le_refl _) (P36 (fun _ => 0) 0)))
    exact post_row2 2 3 27 Try.results84 rfl w.heap.size 27 _ (0, 0) _ rfl hk1.row u27 rfl (i36 _ _) ⟨rfl, hk1.below⟩
end Go.Proofs.Ythklamgdoknmeaa
