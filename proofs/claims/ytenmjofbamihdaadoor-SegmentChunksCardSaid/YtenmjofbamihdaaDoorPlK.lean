/-
  From a walk to the given card, for a law that answers true, makes memory of its own and reads the table of halves: its arguments read as before.
-/
import Derived.Lib.SlBytesConst
import Derived.Test.YtenmjofbamihdaaDoorByK
import Derived.Test.YtenmjofbamihdaaDoorGsK
import Derived.Deep.QuietTactic
import Derived.BigQuiet
import Derived.Deep.AppendLies
import Derived.Laws.CopyOwn
import Derived.Maps.AppendAt
import Derived.Deep.RegionHeld3
import Derived.Deep.Draws
import Derived.Test.YtenmjofbamihdaaDoorTie
import Derived.Test.YtenmjofbamihdaaDoorCards
import Derived.ProofKit
import Derived.Laws.Cover2
import Derived.WideKeyArgs
import Derived.Carry
import Derived.Deep.Slices
import Derived.LaidMore
import Derived.OpenShut
import Derived.Stop.Joined
import Derived.SevenTiedAt
import Derived.SizedLaws
set_option linter.unusedSimpArgs false
set_option linter.unusedVariables false
set_option maxRecDepth 8000
namespace Go.Proofs.YtenmjofbamihdaaDoor
open Go.RowKit

theorem HalvesAt.keep {w w' : World} (h : HalvesAt w) (hb : Below w.heap.size w w') : HalvesAt w' := fun i hi =>
  (hb.cell (p := ⟨0, i, none⟩) (World.block_lt_of_cell? w _ (h i hi))).trans (h i hi)
theorem HalvesAt.at {w w' : World} (h : Hid (HalvesAt w)) (hb : Below w.heap.size w w') : Hid (HalvesAt w') := h.out.keep hb

end Go.Proofs.YtenmjofbamihdaaDoor

set_option linter.unusedSimpArgs false
set_option linter.unusedVariables false
set_option maxRecDepth 8000
namespace Go.Proofs.YtenmjofbamihdaaDoor
open Go.RowKit

def fourC (n : Nat) : Array Value := #[bv (n % 256), bv (n / 256 % 256), bv (n / 65536 % 256), bv (n / 16777216 % 256)]
theorem fourC_list (n : Nat) : (fourC n).toList = bys (Pg.four n) := rfl
theorem fourC_mk (n : Nat) (a b c d : Int) (ha : a = ((n % 256 : Nat) : Int)) (hb : b = ((n / 256 % 256 : Nat) : Int)) (hc : c = ((n / 65536 % 256 : Nat) : Int)) (hd : d = ((n / 16777216 % 256 : Nat) : Int)) :
    #[Value.int .u8 a, .int .u8 b, .int .u8 c, .int .u8 d] = fourC n := by subst ha hb hc hd; rfl
set_option maxHeartbeats 1000000 in
theorem word_any (n : Nat) (hn : n < 4294967296) (w : World) :
    Calls Tryd.prog 40 #[.int .u32 n] w fun e w' => e = .returned (.slice (some ⟨w.heap.size, 0, none⟩) 4 4) ∧ w.alloc (.cells (fourC n) 5) = w' := by
  go_enter Tryd.func40, Tryd.ntmps40
  go_wp2
  go_ret
  exact ⟨rfl, alloc_eq _ (fourC_mk n _ _ _ _ (by omega) (by omega) (by omega) (by omega)).symm⟩
theorem or_join (a b c d : Nat) (ha : a < 256) (hb : b < 256) (hc : c < 256) (hd : d < 256) :
    a ||| b * 256 ||| c * 65536 ||| d * 16777216 = a + 256 * (b + 256 * (c + 256 * (d + 256 * 0))) := by
  have h1 : a ||| b * 256 = b * 256 + a := by rw [Nat.or_comm]; exact nat_join 8 (b * 256) a (by omega) (by omega)
  have h2 : (b * 256 + a) ||| c * 65536 = c * 65536 + (b * 256 + a) := by rw [Nat.or_comm]; exact nat_join 16 (c * 65536) _ (by omega) (by omega)
  have h3 : (c * 65536 + (b * 256 + a)) ||| d * 16777216 = d * 16777216 + (c * 65536 + (b * 256 + a)) := by rw [Nat.or_comm]; exact nat_join 24 (d * 16777216) _ (by omega) (by omega)
  rw [h1, h2, h3]; omega

set_option maxHeartbeats 1000000 in
theorem wordOf_any (a : Option Addr) (l : List Nat) (len cap : Nat) (hlen : Hid (len = l.length)) (h4 : 4 ≤ len) (hl : len ≤ maxLen) (w : World) (HA : Hid (ByAt w a l)) :
    Calls Tryd.prog 49 #[.slice a len cap] w fun e w' => e = .returned (.int .u32 (Pg.val (l.take 4) : Nat)) ∧ ∃ n, w' = w.drewN n := by
  unfold maxLen at hl
  obtain ⟨b0, b1, b2, b3, r, rfl⟩ : ∃ b0 b1 b2 b3 r, l = b0 :: b1 :: b2 :: b3 :: r := by
    have h := hlen.out
    match l, h with
    | b0 :: b1 :: b2 :: b3 :: r, _ => exact ⟨b0, b1, b2, b3, r, rfl⟩
    | [_, _, _], h => simp at h; omega
    | [_, _], h => simp at h; omega
    | [_], h => simp at h; omega
    | [], h => simp at h; omega
  obtain ⟨g, off, rfl, hg, hc⟩ := HA.out.spot (by simp)
  have c0 := hc 0 b0 rfl
  have c1 := hc 1 b1 rfl
  have c2 := hc 2 b2 rfl
  have c3 := hc 3 b3 rfl
  have l0 := HA.out.lt b0 (by simp)
  have l1 := HA.out.lt b1 (by simp)
  have l2 := HA.out.lt b2 (by simp)
  have l3 := HA.out.lt b3 (by simp)
  rw [Nat.add_zero] at c0
  clear hc
  have hj := Lib.hid (or_join b0 b1 b2 b3 l0 l1 l2 l3)
  have j0 : (0 : Int) < (len : Int) := by omega
  have j1 : (1 : Int) < (len : Int) := by omega
  have j2 : (2 : Int) < (len : Int) := by omega
  have j3 : (3 : Int) < (len : Int) := by omega
  have e1 : bits .or .u32 (b0 : Int) ((b1 : Int) * 256) = ((b0 ||| b1 * 256 : Nat) : Int) := u32_or_nat b0 (b1 * 256) (by omega) (by omega)
  have e2 : bits .or .u32 ((b0 ||| b1 * 256 : Nat) : Int) ((b2 : Int) * 65536) = ((b0 ||| b1 * 256 ||| b2 * 65536 : Nat) : Int) := u32_or_nat (b0 ||| b1 * 256) (b2 * 65536) (Nat.or_lt_two_pow (n := 32) (by omega) (by omega)) (by omega)
  have e3 : bits .or .u32 ((b0 ||| b1 * 256 ||| b2 * 65536 : Nat) : Int) ((b3 : Int) * 16777216) = ((b0 ||| b1 * 256 ||| b2 * 65536 ||| b3 * 16777216 : Nat) : Int) :=
    u32_or_nat (b0 ||| b1 * 256 ||| b2 * 65536) (b3 * 16777216) (Nat.or_lt_two_pow (n := 32) (Nat.or_lt_two_pow (n := 32) (by omega) (by omega)) (by omega)) (by omega)
  have hv : Hid (Pg.val ((b0 :: b1 :: b2 :: b3 :: r).take 4) = b0 + 256 * (b1 + 256 * (b2 + 256 * (b3 + 256 * 0)))) := rfl
  go_enter Tryd.func49, Tryd.ntmps49
  go_wp2
  go_quiet (fail)
  go_wp2
  go_ret
  exact ⟨ret_eqP (by rw [hv.out, ← hj.out]; rfl), _, rfl⟩
end Go.Proofs.YtenmjofbamihdaaDoor

set_option linter.unusedSimpArgs false
set_option linter.unusedVariables false
set_option maxRecDepth 8000
namespace Go.Proofs.YtenmjofbamihdaaDoor
open Go.RowKit

section
variable {w w' : World} {B n cap : Nat} {A : Option Addr} {l : List Nat}
end
set_option maxHeartbeats 1000000 in
theorem clone_any (a : Option Addr) (l : List Nat) (len cap : Nat) (hlen : Hid (len = l.length)) (hl : len ≤ 140737488355328) (w : World) (HA : Hid (ByAt w a l)) :
    Calls Tryd.prog 31 #[.slice a len cap] w (RetS w l) := by
  have q22 : ∀ (w : World) (a : Option Addr) (n c n' c' : Nat), (binOp .eql 24 (.slice a n c) (.slice none n' c')).run Tryd.prog w = .ok (.bool a.isNone) w := fun w a n c n' c' => Lib.run_eql_slice_nil w _ _ a n c n' c' Tryd.underlying24
  have hl9 : len ≤ maxLen := by unfold maxLen; omega
  rcases a with _ | ad
  · have e : l = [] := by
      rcases l with _ | ⟨x, r⟩
      · rfl
      · obtain ⟨-, g, off, e, -⟩ := HA.out 0 x rfl; cases e
    subst e
    have e : len = 0 := hlen.out
    subst e
    go_enter Tryd.func31, Tryd.ntmps31
    go_wp2
    go_ret
    exact ⟨none, 0, rfl, OwnS.nil _ _, Below.refl _ _⟩
  · have HA1 : Hid (ByAt (w.alloc (.cells #[] 5)) (some ad) l) := Lib.hid (HA.out.keep ((Below.refl _ _).alloc (Nat.le_refl _) _))
    have HO : Hid (OwnS (w.alloc (.cells #[] 5)) w.heap.size (some ⟨w.heap.size, 0, none⟩) 0 0 []) := Lib.hid ⟨World.ownsRow_made w #[] 0 (Nat.le_refl _) (Nat.zero_le _) (by simp), fun x hx => by cases hx⟩
    go_enter Tryd.func31, Tryd.ntmps31
    go_wp2_with (at_builtin; refine wpList_append_by rfl (.tmp 5) (.tmp 6) rfl w.heap.size (some ⟨w.heap.size, 0, none⟩) 0 0 [] rfl HO.out (some ad) len cap l rfl hlen.out HA1.out (by omega) (by simp) ?_; intro A' cap' w' hO hG hL)
    go_ret
    rw [Nat.zero_add, List.nil_append, hlen.out] at hO
    exact ⟨A', cap', by rw [← hlen.out]; rfl, hO, ((Below.refl _ w).alloc (Nat.le_refl _) _).grown hG (by simp) (by intro k hk; simp at hk; omega)⟩

/-! Cuts -/
end Go.Proofs.YtenmjofbamihdaaDoor

set_option linter.unusedSimpArgs false
set_option linter.unusedVariables false
set_option maxRecDepth 8000
namespace Go.Proofs.YtenmjofbamihdaaDoor
open Go.ChangeShapes Go.WideShapes Go.ChangeAt Go.WideElems Go.RowKit

theorem Tryd.own : ownKnob Tryd.prog.godebug = none := by kernel_rfl
theorem Tryd.laidOut : laidOutB Tryd.prog = true := by kernel_rfl

section
variable {H : Type} {enc : TypeId × Value → H} {P : Program}

theorem trodAll_keep {W W' : World} {sp : Nat → Bool} (hl : laidOutB P = true) (hs : ∀ x : MemPlace, x.block < W.heap.size → W.sameAt W' x) : ∀ (ts : List TypeId) (vs : List Value) (ds : List (DataW H)) (ps : List MemPlace),
    (∀ t, t ∈ ts → P.readableRec t = true ∧ t < P.types.size) → DataW.TrodAll enc P W 0 (fun _ => true) true ts vs ds ps → (∀ x, x ∈ ps → x.block < W.heap.size) → (∀ x, x ∈ ps → sp x.block = true) →
    DataW.TrodAll enc P W' 0 sp true ts vs ds ps
  | [], [], [], _, _, h, _, _ => h
  | t :: ts, v :: vs, d :: ds, ps, hr, ⟨p, q, hd, hrest, he⟩, hlt, hsp => by
    subst he
    refine ⟨p, q, ?_, trodAll_keep hl hs ts vs ds q (fun t ht => hr t (by simp [ht])) hrest (fun x hx => hlt x (by simp [hx])) (fun x hx => hsp x (by simp [hx])), rfl⟩
    exact WideElems.Trod_stays hl (hr t (by simp)).1 (hr t (by simp)).2 hd (fun x hx => hs x (hlt x (by simp [hx]))) (fun x hx => hsp x (by simp [hx]))
  | [], [], _ :: _, _, _, h, _, _ => h.elim
  | [], _ :: _, _, _, _, h, _, _ => h.elim
  | _ :: _, [], _, _, _, h, _, _ => h.elim
  | _ :: _, _ :: _, [], _, _, h, _, _ => h.elim

theorem post_law {f : Func} {s : ChangeSpec} {W W' : World} {args : Array Value} {ds : List (DataW H)} {before : List MemPlace} {tb : TypeId} (hl : laidOutB P = true)
    (hv : s.vars = []) (hW : DataW.Whole enc P f.params.toList s.vars false W args.toList ds [] before)
    (hrec : ∀ t, t ∈ f.params.toList → P.readableRec t = true ∧ t < P.types.size)
    (hres : (s.fn H ds).results = [.lit (.bool true)]) (hargs : (s.fn H ds).args = ds) (hvs : (s.fn H ds).vars = [])
    (hrt : f.resultTypes = #[tb]) (htb : P.underlying tb = some .bool) (hb : Below W.heap.size W W') : s.post enc P f false true false false W args (.bool true) W' := by
  have hlt : ∀ x, x ∈ before → x.block < W.heap.size := fun x hx => hW.lt x hx
  have hW2 := hW
  obtain ⟨p, q, hA, hV, rfl, -, -⟩ := hW2
  have hq : q = [] := by rw [hv] at hV; exact hV
  subst hq
  refine ⟨ds, [], p ++ [], [], p, [], hW, ?_, ?_, ?_, hb.frame _, fun h => by cases h⟩
  · rw [List.append_nil, hres, hrt]
    exact trodAll_mk1 (shut_bool htb true)
  · rw [List.append_nil, hargs]
    exact trodAll_keep hl (fun x hx => hb.same hx) _ _ _ _ hrec hA (fun x hx => hlt x (by simp [hx])) (fun x hx => by simpa using hlt x (by simp [hx]))
  · rw [List.append_nil, hv, hvs]; rfl

end

theorem gHalves : Tryd.prog.globalNamed "headrace/page.halves" = some 0 := by kernel_rfl
theorem tHalves : (Tryd.prog.globals[0]?).map (·.type) = some 102 := by kernel_rfl
def laidHalves {H : Type} : List (String × DataW H) := [("headrace/page.halves", Rows.laid_headrace_page_halves)]
theorem door_met (os : Os) (args : Array Value) : laidMetH Tryd.prog laidHalves ((World.doorLaid Tryd.prog 400 os).forCall (fun _ _ => 0) ⟨#[], args, []⟩).memory :=
  laidMetH_of_parts3 (fuel := 8) (laidMet_of_run' 8 (by kernel_rfl) (by kernel_rfl)) (by kernel_rfl) (by kernel_rfl)
theorem laid_parts (i : Nat) (hi : i < 16) : ∃ parts : List (DataW Unit), (Rows.laid_headrace_page_halves : DataW Unit) = .agg parts ∧ parts[i]? = some (.lit (.int .u32 (Pg.half i : Nat))) := by
  refine ⟨_, rfl, ?_⟩
  exact match i, hi with
  | 0, _ => rfl
  | 1, _ => rfl
  | 2, _ => rfl
  | 3, _ => rfl
  | 4, _ => rfl
  | 5, _ => rfl
  | 6, _ => rfl
  | 7, _ => rfl
  | 8, _ => rfl
  | 9, _ => rfl
  | 10, _ => rfl
  | 11, _ => rfl
  | 12, _ => rfl
  | 13, _ => rfl
  | 14, _ => rfl
  | 15, _ => rfl
  | n + 16, h => absurd h (by omega)
/-- What the condition gives the walks: the table's cells. -/
theorem of_laid {W : World} (h : laidMetH Tryd.prog laidHalves W) : HalvesAt W := by
  rw [MakeChecks.laidMetH_plain _ _ _ (by kernel_rfl)] at h
  obtain ⟨ps, ⟨g0, t0, cs0, f0, p0, q0, hg0, ht0, hv0, hd0, _, _⟩, _, _⟩ := h
  obtain rfl := Option.some.inj (gHalves.symm.trans hg0)
  obtain rfl := Option.some.inj (tHalves.symm.trans ht0)
  obtain ⟨xs, m1, rfl, hx1, hlen, hn3, hel⟩ := DataW.trod_array Tryd.underlying102 hd0
  have c3 : Tryd.prog.cellsOf 83 = 1 := by kernel_rfl
  intro i hi
  obtain ⟨parts, hp, hpi⟩ := laid_parts i hi
  rw [hp] at hx1
  simp only [Prod.mk.injEq, DataW.agg.injEq] at hx1
  have hxi : xs[i]? = some (xs[i]'(by omega)) := List.getElem?_eq_getElem (by omega)
  have hi1 := hel i hi
  rw [c3, Nat.mul_one, hxi] at hi1
  obtain ⟨k, e1, e2, _⟩ := DataW.trod_int Tryd.underlying83 hi1
  have hk : k = (Pg.half i : Nat) := by
    rw [hx1.1, List.getElem?_map, hxi] at hpi
    simp only [Option.map_some, Option.some.injEq] at hpi
    rw [e2] at hpi
    simpa using hpi
  subst hk
  have hc := World.var?_cell hg0 hv0 i
  rw [hc, ← Array.getElem?_toList]
  have h2 : (cs0.toList.drop i)[0]? = some (.int .u32 (Pg.half i : Nat)) := by
    have h3 : ((cs0.toList.drop i).take 1)[0]? = some (.int .u32 (Pg.half i : Nat)) := by rw [e1]; rfl
    rw [List.getElem?_take] at h3
    simpa using h3
  rw [List.getElem?_drop] at h2
  simpa using h2
end Go.Proofs.YtenmjofbamihdaaDoor
