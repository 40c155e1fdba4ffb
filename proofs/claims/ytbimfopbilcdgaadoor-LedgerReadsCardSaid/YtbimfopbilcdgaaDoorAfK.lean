/-
  Uint and Text appended: all but the list's own block is kept; and the document's own.
-/
import Derived.Lib.ConvBytes
import Derived.Lib.AppendStr
import Derived.Test.YtbimfopbilcdgaaDoorCwK
set_option linter.unusedSimpArgs false
set_option linter.unusedVariables false
set_option maxRecDepth 8000
namespace Go.Proofs.YtbimfopbilcdgaaDoor
open Go.RowKit Go.WideShapes Col
def WfT (x : List Nat) : Prop := ∀ c ∈ x, c < 256
theorem ub10 {n : Nat} (h : n < 18446744073709551616) : (ub n).length ≤ 10 := ub_len 9 n (Nat.lt_trans h (by decide))
/-- The list's own block. -/
def MineK (A : Option Addr) (k : Nat) : Prop := A.map (·.block) = some k
theorem kept_grown {w0 w w' : World} {A A0 : Option Addr} (h : Kept (MineK A0) w0 w) (hA : ∀ k, MineK A k → MineK A0 k ∨ w0.heap.size ≤ k) (hg : w.grownBy w' (A.map (·.block))) : Kept (MineK A0) w0 w' :=
  h.trans' (S' := MineK A) ⟨hg.os, hg.tape, hg.output, hg.size, fun k hk hn => hg.block k hk (fun e => hn e.symm)⟩ hA
theorem mine_next {w0 w : World} {A A0 A2 : Option Addr} (hA : ∀ k, MineK A k → MineK A0 k ∨ w0.heap.size ≤ k) (hs : w0.heap.size ≤ w.heap.size) (hr : A2.map (·.block) = A.map (·.block) ∨ A2.map (·.block) = some w.heap.size) : ∀ k, MineK A2 k → MineK A0 k ∨ w0.heap.size ≤ k := fun k hk => by
  unfold MineK at hk
  rcases hr with h | h
  · rw [h] at hk; exact hA k hk
  · rw [h] at hk; injection hk with hk; exact .inr (by omega)
theorem kept_own {w w' : World} {A : Option Addr} {B n cap : Nat} {l : List Nat} (h : Kept (MineK A) w w') (ho : OwnS w B A n cap l) (hB : B ≤ w.heap.size) : Below B w w' := h.below hB fun k hk => ho.base k hk
/-- What a call ends with that appends bytes. -/
def PutK (B : Nat) (w : World) (A : Option Addr) (l : List Nat) (e : Ending) (w' : World) : Prop := ∃ A' n cap, e = .returned (.slice A' n cap) ∧ OwnS w' B A' n cap l ∧ Kept (MineK A) w w' ∧ (∀ k, MineK A' k → MineK A k ∨ w.heap.size ≤ k)
theorem PutK.at {B : Nat} {w w' : World} {A : Option Addr} {l : List Nat} {e : Ending} (h : PutK B w A l e w') : ∃ A' n cap, e = .returned (.slice A' n cap) ∧ Hid (OwnS w' B A' n cap l) ∧ Hid (Kept (MineK A) w w') ∧ Hid (∀ k, MineK A' k → MineK A k ∨ w.heap.size ≤ k) ∧ n = l.length := by
  obtain ⟨A', n, cap, he, ho, hk, hm⟩ := h
  exact ⟨A', n, cap, he, ho, hk, hm, ho.len⟩
set_option maxHeartbeats 1000000 in
theorem putU_k (B : Nat) (A : Option Addr) (n cap : Nat) (l : List Nat) (x : Nat) (hx : x < 18446744073709551616) (w : World) (H : Hid (OwnS w B A n cap l)) (hn : n ≤ 1099511627776) (hB : B ≤ w.heap.size) :
    Calls Tryd.prog 14 #[.slice A n cap, .int .u64 (x : Int)] w (PutK B w A (l ++ ub x)) := by
  have HBB := Lib.hid hB
  go_enter Tryd.func14, Tryd.ntmps14
  go_wp2
  go_loopw [0, 1] (fun p y wr => ∃ (A' : Option Addr) (n' cap' : Nat) (l' : List Nat) (x' : Nat), p = .slice A' n' cap' ∧ y = .int .u64 (x' : Int) ∧ x' ≤ x ∧ n' + (ub x').length ≤ n + (ub x).length ∧ l' ++ ub x' = l ++ ub x ∧ OwnS wr B A' n' cap' l' ∧ Kept (MineK A) w wr ∧ (∀ k, MineK A' k → MineK A k ∨ w.heap.size ≤ k)) (fun _ y _ => (intOf y).toNat)
  case atStart => exact ⟨A, n, cap, l, x, rfl, rfl, Nat.le_refl _, Nat.le_refl _, rfl, H.out, Kept.refl _ _, fun k hk => .inl hk⟩
  case round =>
    obtain ⟨A', n', cap', l', x', rfl, rfl, hx', hn', hl, hown, hb, hmi⟩ := hrel
    have HN := Lib.hid hn'
    have HL := Lib.hid hl
    have HO := Lib.hid hown
    have HB := Lib.hid hb
    have HMI := Lib.hid hmi
    have hub := Lib.hid (ub_len 9 x (Nat.lt_trans hx (by decide)))
    have hub' := Lib.hid (ub_pos x')
    clear hn' hl hown hb hmi
    have hbs : B ≤ wr.heap.size := Nat.le_trans HBB.out HB.out.size
    by_cases h : x' < 128
    · have hw8 : IntKind.u8.wrap (x' : Int) = (x' : Int) := by rw [IntKind.wrap_u8]; omega
      have HB1 := Lib.hid (by_one wr x' (by omega))
      have HO1 := Lib.hid (HO.out.keep ((Below.refl _ _).alloc (Nat.le_refl _) (.cells #[.int .u8 (x' : Int)] 5)))
      have hbs1 : B ≤ (wr.alloc (.cells #[.int .u8 (x' : Int)] 5)).heap.size := by simp; omega
      go_wp2_with (refine wpList_append_by rfl (.tmp 15) (.tmp 18) rfl B A' n' cap' l' rfl HO1.out (some ⟨wr.heap.size, 0, none⟩) 1 1 [x'] rfl rfl HB1.out (by have := HN.out; have := hub.out; have := hub'.out; omega) hbs1 ?_; intro A2 cap2 w2 ho2 hg2 hr2)
      have HF := Lib.hid ho2
      have HG := Lib.hid hg2
      have HR2 := Lib.hid hr2
      clear ho2 hg2 hr2
      go_ret
      exact ⟨A2, n' + 1, cap2, rfl, by rw [← HL.out, ub_lt h]; exact HF.out, kept_grown (HB.out.alloc _) HMI.out HG.out, mine_next HMI.out (HB.out.alloc _).size HR2.out⟩
    · have h8 := or128 x'
      have HB1 := Lib.hid (by_one wr (x' % 128 + 128) (by omega))
      have HO1 := Lib.hid (HO.out.keep ((Below.refl _ _).alloc (Nat.le_refl _) (.cells #[.int .u8 ((x' % 128 + 128 : Nat) : Int)] 5)))
      have hbs1 : B ≤ (wr.alloc (.cells #[.int .u8 ((x' % 128 + 128 : Nat) : Int)] 5)).heap.size := by simp; omega
      obtain ⟨c, hc⟩ : ∃ c, c = x' % 128 + 128 := ⟨_, rfl⟩
      rw [← hc] at h8 HB1 HO1 hbs1
      have HC := Lib.hid hc
      clear hc
      go_wp2_with (refine wpList_append_by rfl (.tmp 7) (.tmp 11) rfl B A' n' cap' l' rfl HO1.out (some ⟨wr.heap.size, 0, none⟩) 1 1 [c] rfl rfl HB1.out (by have := HN.out; have := hub.out; have := hub'.out; omega) hbs1 ?_; intro A2 cap2 w2 ho2 hg2 hr2; have HF := Lib.hid ho2; have HG := Lib.hid hg2; have HR2 := Lib.hid hr2; clear ho2 hg2 hr2)
      go_roundw
      case rel => exact ⟨A2, n' + 1, cap2, l' ++ [c], x' / 128, rfl, by go_num, by omega, by have := HN.out; rw [ub_ge (by omega), List.length_cons] at this; omega, by rw [← HL.out, ub_ge (n := x') (by omega), List.append_assoc, HC.out]; rfl, HF.out, kept_grown (HB.out.alloc _) HMI.out HG.out, mine_next HMI.out (HB.out.alloc _).size HR2.out⟩
      case measure => simp [intOf]; omega
theorem Puts.at {B : Nat} {w w' : World} {l : List Nat} {e : Ending} (h : Puts B w l e w') : ∃ A n cap, e = .returned (.slice A n cap) ∧ Hid (OwnS w' B A n cap l) ∧ Hid (Below B w w') ∧ n = l.length := by
  obtain ⟨A, n, cap, he, ho, hb, -⟩ := h
  exact ⟨A, n, cap, he, ho, hb, ho.len⟩
theorem conv_sb (s : List Nat) (hs : WfT s) (n : Nat) (hn : n = s.length) (w : World) : ∃ (w' : World) (C : Nat), (convert 9 22 (.string (strB s))).run Tryd.prog w = .ok (.slice (some ⟨w.heap.size, 0, none⟩) n C) w' ∧ ByAt w' (some ⟨w.heap.size, 0, none⟩) s ∧ Below w.heap.size w w' := by
  have h := Go.Lib.run_convert_string_bytes w 9 22 5 (strB s) Tryd.underlying9 Tryd.underlying22 Tryd.underlying5
  rw [show (strB s).size = n by rw [strB_size, hn]] at h
  refine ⟨_, _, h, fun k x hx => ?_, ⟨rfl, rfl, rfl, by rw [Go.Lib.bytesWorld_size]; omega, fun k hk => Go.Lib.bytesWorld_at_old _ _ _ k hk⟩⟩
  · have hx256 := hs x (List.mem_of_getElem? hx)
    refine ⟨hx256, _, 0, rfl, by rw [Go.Lib.bytesWorld_size]; omega, ?_⟩
    have hk := (List.getElem?_eq_some_iff.1 hx).1
    rw [Nat.zero_add, Go.Lib.bytesWorld_cell w _ (strB s) k (by rw [strB_size]; exact hk)]
    have e : (strB s).data.toList.getD k 0 = UInt8.ofNat x := by
      unfold strB; rw [strOfNums_data, List.getD_eq_getElem?_getD, List.getElem?_map, List.getElem?_map, hx]; rfl
    rw [e, UInt8.toNat_ofNat_of_lt' (by simpa using hx256)]
/-- A text as bytes. -/
def txL (s : List Nat) : List Nat := ub s.length ++ s
theorem strCells_by (s : List Nat) (hs : WfT s) : Go.Lib.strCells (strB s) = bys s := by
  unfold Go.Lib.strCells strB bys
  rw [strOfNums_data, List.map_map, List.map_map]
  refine List.map_congr_left fun x hx => ?_
  show Value.int .u8 ((UInt8.ofNat (Int.ofNat x).toNat).toNat : Int) = .int .u8 (x : Int)
  rw [show (Int.ofNat x).toNat = x from rfl, UInt8.toNat_ofNat_of_lt' (by simpa using hs x hx)]
theorem ownStr {w : World} {B n : Nat} {v : Value} {l : List Value} (h : w.ownsRow B 5 1 v n l) : ∃ A cap, v = .slice A n cap := by
  rcases h.2 with ⟨e0, e1⟩ | ⟨g, cap', cur, e0, -⟩
  · exact ⟨none, 0, by rw [e0, e1]⟩
  · exact ⟨_, _, e0⟩
theorem ownB {w : World} {B n cap : Nat} {A : Option Addr} {l : List Nat} (h : OwnS w B A n cap l) : ∀ k, (Value.slice A n cap).ownBlock = some k → B ≤ k := fun k hk => by
  rcases A with _ | a
  · cases hk
  · exact h.base k (by simpa [Value.ownBlock] using hk)
theorem own_block (A : Option Addr) (n c : Nat) : (Value.slice A n c).ownBlock = A.map (·.block) := by cases A <;> rfl
set_option maxHeartbeats 2000000 in
theorem putT_any (B : Nat) (A : Option Addr) (n cap : Nat) (l s : List Nat) (hs : WfT s) (hl : s.length ≤ 1000000) (w : World) (H : Hid (OwnS w B A n cap l)) (hn : n ≤ 1099511627776) (hB : B ≤ w.heap.size) :
    Calls Tryd.prog 28 #[.slice A n cap, .string (strB s)] w (Puts B w (l ++ txL s)) := by
  obtain ⟨m, hm⟩ : ∃ m, m = s.length := ⟨_, rfl⟩
  have hsz : (strB s).size = m := by rw [strB_size, hm]
  have HSZ := Lib.hid hsz
  have hmw : IntKind.u64.wrap (m : Int) = (m : Int) := by rw [IntKind.wrap_u64]; omega
  have HU := Lib.hid (putU_any B A n cap l m (by omega) w H hn hB)
  have H10 : Hid ((ub m).length ≤ 10) := Lib.hid (ub10 (show m < 18446744073709551616 by omega))
  have HWS := Lib.hid hs
  have HM := Lib.hid hm
  have HLN : Hid (n = l.length) := Lib.hid H.out.len
  have hml : m ≤ 1000000 := by omega
  obtain ⟨i0, hi, hz0, hz1, hz2⟩ := info_parts infoU8
  have HI := Lib.hid (And.intro hi (And.intro hz0 (And.intro hz1 hz2)))
  clear hs hm hl hi hz0 hz1 hz2
  go_enter Tryd.func28, Tryd.ntmps28
  go_wp2_with (first
    | (go_at_call 14; (with_reducible refine (HU.out).mono ?_); rintro e w2 hp; obtain ⟨A2, n2, c2, rfl, HO2, HB2, hn2⟩ := hp.at; have HN2 := Lib.hid hn2; have hn10 : n2 ≤ n + 10 := (by have := H10.out; have := HLN.out; rw [hn2, List.length_append]; omega); have hB2 : B ≤ w2.heap.size := Nat.le_trans hB HB2.out.size; clear hp hn2)
    | (at_builtin; refine Go.Lib.wpList_append_own_string _ rfl (.tmp 9) (.tmp 10) 22 9 rfl B 5 i0 Tryd.underlying22 Tryd.underlying9 HI.out.1 HI.out.2.1 HI.out.2.2.1 HI.out.2.2.2 (.slice A2 n2 c2) n2 _ rfl HO2.out.1 (strB s) rfl (by rw [HSZ.out]; unfold maxLen; omega) (by rw [HSZ.out]; omega) hB2 ?_; intro v4 w4 ho4 hg4 hr4; rw [HSZ.out, strCells_by s HWS.out] at ho4; obtain ⟨A5, c5, hv4⟩ := ownStr ho4; subst hv4; have HO4 := Lib.hid ho4; have HB4 := Lib.hid (HB2.out.grown hg4 hB2 (ownB HO2.out)); clear ho4 hg4 hr4))
  have ho := HO4.out
  rw [show bys (l ++ ub m) ++ bys s = bys (l ++ txL s) by unfold txL bys; rw [← HM.out]; simp] at ho
  go_ret
  refine ⟨A5, _, c5, rfl, ⟨ho, fun x hx => ?_⟩, HB4.out, HB4.out.size⟩
  rcases List.mem_append.1 hx with h | h
  · exact H.out.2 x h
  · unfold txL at h
    rcases List.mem_append.1 h with h2 | h2
    · exact HO2.out.2 x (List.mem_append.2 (.inr (by rw [HM.out]; exact h2)))
    · exact HWS.out x h2
end Go.Proofs.YtbimfopbilcdgaaDoor
