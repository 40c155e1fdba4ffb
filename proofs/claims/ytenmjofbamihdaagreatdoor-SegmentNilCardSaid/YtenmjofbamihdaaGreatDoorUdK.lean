/-
  Layer column: Text appended.
-/
import Derived.Test.YtenmjofbamihdaaGreatDoorUaK
import Derived.Lib.ConvBytes
import Derived.Test.YtenmjofbamihdaaGreatDoorDaK
import Derived.Lib.AppendStr
set_option linter.unusedSimpArgs false
set_option linter.unusedVariables false
set_option maxRecDepth 8000
namespace Go.Proofs.YtenmjofbamihdaaGreatDoor
open Go.RowKit Go.WideShapes Col
namespace Col
/-- Numbers with a point that are all of some bytes. -/
def rTL (q : List Nat) : Option (List (List Nat)) := match rT q with
  | some (us, []) => some us
  | _ => none
end Col
/-- What the list's cell holds behind the reading. -/
def RdTA (q : List Nat) (cl B : Nat) (b : Bool) (w : World) : Prop := match b with
  | true => ∃ L n us, rTL q = some us ∧ n = us.length ∧ w.heap[cl]? = some (.cells #[.slice (some ⟨L, 0, none⟩) n n] 84 (0, 0)) ∧ RowT w L us ∧ B ≤ L
  | false => rTL q = none
theorem RdTA.keep {q : List Nat} {cl B B' g : Nat} {b : Bool} {w w' : World} (h : RdTA q cl B b w) (hk : Kept (Only g) w w') (h1 : cl ≠ g) (h2 : g < B) (hB : B' ≤ B) : RdTA q cl B' b w' := by
  cases b with
  | false => exact h
  | true =>
    obtain ⟨L, n, us, e1, e2, hrow, hrf, hl⟩ := h
    exact ⟨L, n, us, e1, e2, hk.heap hrow fun e => h1 e, hrf.keep hk (fun e => by have e : L = g := e; omega), by omega⟩
end Go.Proofs.YtenmjofbamihdaaGreatDoor

set_option linter.unusedSimpArgs false
set_option linter.unusedVariables false
set_option maxRecDepth 8000
namespace Go.Proofs.YtenmjofbamihdaaGreatDoor
open Go.RowKit Go.WideShapes Col

/-- A text as bytes. -/
def txL (s : List Nat) : List Nat := ub s.length ++ s
end Go.Proofs.YtenmjofbamihdaaGreatDoor

set_option linter.unusedSimpArgs false
set_option linter.unusedVariables false
set_option maxRecDepth 8000
namespace Go.Proofs.YtenmjofbamihdaaGreatDoor
open Go.RowKit Go.WideShapes Col

theorem ints_few (l : List Int) (hl : ∀ x ∈ l, Wf64 x) (hn : l.length ≤ 5000) : (intsL l).length ≤ 1000000 := by
  have h1 := best_le 3 l 0 (by omega)
  have h2 := lpl_len l hl
  have h3 := ub10 (n := l.length) (by omega)
  have h4 : (asL 0 l).length = 1 + (ub l.length).length + (lpl l).length := by unfold asL; rw [if_pos rfl, List.length_append, List.length_append]; rfl
  have h5 : (intsL l).length ≤ (asL 0 l).length := h1
  omega
/-- At which place a text stands. -/
def plc : List (List Nat) → List Nat → Nat
  | [], _ => 0
  | a :: r, x => if a = x then 0 else plc r x + 1
theorem plc_le (all : List (List Nat)) (x : List Nat) : plc all x ≤ all.length := by
  induction all with
  | nil => exact Nat.le_refl _
  | cons a r ih => rw [plc]; split <;> simp <;> omega
/-- What is told of a text by the first k. -/
def pre (all : List (List Nat)) (k : Nat) (x : List Nat) : List Int := if x ∈ all.take k then [(plc all x : Int)] else []
/-- Texts as bytes. -/
def textsL (l : List (List Nat)) : List Nat := ub (uqL l).length ++ ((uqL l).map txL).flatten ++ intsL (l.map fun x => (plc (uqL l) x : Int))
def TX3 (wa : World) (all : List (List Nat)) (m : Nat) (up v : Value) (wr : World) : Prop :=
  ∃ (j N : Nat) (Ap : Option Addr) (cp : Nat), j ≤ m ∧ v = .int .i64 (j : Int) ∧ up = .slice Ap N cp ∧ N ≤ 10 + 1000010 * j ∧ OwnS wr wa.heap.size Ap N cp (ub m ++ ((all.take j).map txL).flatten) ∧ Below wa.heap.size wa wr
end Go.Proofs.YtenmjofbamihdaaGreatDoor

set_option linter.unusedSimpArgs false
set_option linter.unusedVariables false
set_option maxRecDepth 8000
namespace Go.Proofs.YtenmjofbamihdaaGreatDoor
open Go.RowKit Go.WideShapes Col

theorem plc_at {all : List (List Nat)} {x : List Nat} (h : x ∈ all) : all[plc all x]? = some x := by
  induction all with
  | nil => cases h
  | cons a r ih =>
    rw [plc]
    by_cases e : a = x
    · rw [if_pos e, e]; rfl
    · rw [if_neg e, List.getElem?_cons_succ]
      exact ih ((List.mem_cons.1 h).resolve_left fun e2 => e e2.symm)
end Go.Proofs.YtenmjofbamihdaaGreatDoor

set_option linter.unusedSimpArgs false
set_option linter.unusedVariables false
set_option maxRecDepth 8000
namespace Go.Proofs.YtenmjofbamihdaaGreatDoor
open Go.RowKit Go.WideShapes Col

theorem strCells_by (s : List Nat) (hs : WfT s) : Go.Lib.strCells (strB s) = bys s := by
  unfold Go.Lib.strCells strB bys
  rw [strOfNums_data, List.map_map, List.map_map]
  refine List.map_congr_left fun x hx => ?_
  show Value.int .u8 ((UInt8.ofNat (Int.ofNat x).toNat).toNat : Int) = .int .u8 (x : Int)
  rw [show (Int.ofNat x).toNat = x from rfl, UInt8.toNat_ofNat_of_lt' (by simpa using hs x hx)]
theorem ownStr {w : World} {B n : Nat} {v : Value} {l : List Value} (h : w.ownsRow B 5 1 v n l) : ∃ A cap, v = .slice A n cap := by
  rcases h.2 with ⟨e0, e1⟩ | ⟨g, cap', cur, e0, -⟩
  · exact ⟨none, 0, by rw [e0, e1]⟩
  · exact ⟨_, _, e0⟩
theorem ownB {w : World} {B n cap : Nat} {A : Option Addr} {l : List Nat} (h : OwnS w B A n cap l) : ∀ k, (Value.slice A n cap).ownBlock = some k → B ≤ k := fun k hk => by
  rcases A with _ | a
  · cases hk
  · exact h.base k (by simpa [Value.ownBlock] using hk)
set_option maxHeartbeats 2000000 in
theorem putT_any (B : Nat) (A : Option Addr) (n cap : Nat) (l s : List Nat) (hs : WfT s) (hl : s.length ≤ 1000000) (w : World) (H : Hid (OwnS w B A n cap l)) (hn : n ≤ 1099511627776) (hB : B ≤ w.heap.size) :
    Calls Tryz.prog 39 #[.slice A n cap, .string (strB s)] w (Puts B w (l ++ txL s)) := by
  obtain ⟨m, hm⟩ : ∃ m, m = s.length := ⟨_, rfl⟩
  have hsz : (strB s).size = m := by rw [strB_size, hm]
  have HSZ := Lib.hid hsz
  have hmw : IntKind.u64.wrap (m : Int) = (m : Int) := by rw [IntKind.wrap_u64]; omega
  have HU := Lib.hid (putU_any B A n cap l m (by omega) w H hn hB)
  have H10 : Hid ((ub m).length ≤ 10) := Lib.hid (ub10 (show m < 18446744073709551616 by omega))
  have HWS := Lib.hid hs
  have HM := Lib.hid hm
  have HLN : Hid (n = l.length) := Lib.hid H.out.len
  have hml : m ≤ 1000000 := by omega
  obtain ⟨i0, hi, hz0, hz1, hz2⟩ := info_parts infoU8
  have HI := Lib.hid (And.intro hi (And.intro hz0 (And.intro hz1 hz2)))
  clear hs hm hl hi hz0 hz1 hz2
  go_enter Tryz.func39, Tryz.ntmps39
  go_wp2_with (first
    | (go_at_call 58; (with_reducible refine (HU.out).mono ?_); rintro e w2 hp; obtain ⟨A2, n2, c2, rfl, HO2, HB2, hn2⟩ := hp.at; have HN2 := Lib.hid hn2; have hn10 : n2 ≤ n + 10 := (by have := H10.out; have := HLN.out; rw [hn2, List.length_append]; omega); have hB2 : B ≤ w2.heap.size := Nat.le_trans hB HB2.out.size; clear hp hn2)
    | (at_builtin; refine Go.Lib.wpList_append_own_string _ rfl (.tmp 9) (.tmp 10) 29 9 rfl B 5 i0 Tryz.underlying29 Tryz.underlying9 HI.out.1 HI.out.2.1 HI.out.2.2.1 HI.out.2.2.2 (.slice A2 n2 c2) n2 _ rfl HO2.out.1 (strB s) rfl (by rw [HSZ.out]; unfold maxLen; omega) (by rw [HSZ.out]; omega) hB2 ?_; intro v4 w4 ho4 hg4 hr4; rw [HSZ.out, strCells_by s HWS.out] at ho4; obtain ⟨A5, c5, hv4⟩ := ownStr ho4; subst hv4; have HO4 := Lib.hid ho4; have HB4 := Lib.hid (HB2.out.grown hg4 hB2 (ownB HO2.out)); clear ho4 hg4 hr4))
  have ho := HO4.out
  rw [show bys (l ++ ub m) ++ bys s = bys (l ++ txL s) by unfold txL bys; rw [← HM.out]; simp] at ho
  go_ret
  refine ⟨A5, _, c5, rfl, ⟨ho, fun x hx => ?_⟩, HB4.out, HB4.out.size⟩
  rcases List.mem_append.1 hx with h | h
  · exact H.out.2 x h
  · unfold txL at h
    rcases List.mem_append.1 h with h2 | h2
    · exact HO2.out.2 x (List.mem_append.2 (.inr (by rw [HM.out]; exact h2)))
    · exact HWS.out x h2
end Go.Proofs.YtenmjofbamihdaaGreatDoor
