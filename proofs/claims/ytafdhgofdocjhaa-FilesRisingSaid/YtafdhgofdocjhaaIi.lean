/-
  Layer files: List of many files; Sync, Read, Rename of a store whatever its files are.
-/
import Derived.Test.YtafdhgofdocjhaaIh
set_option linter.unusedSimpArgs false
set_option linter.unusedVariables false
namespace Go.Proofs.Ytafdhgofdocjhaa
open Go.RowKit Go.WideShapes

theorem fill_step {α : Type} (l : List α) (n k : Nat) (z x : α) (hl : l.length = n) (hk : k < n) (hx : l[k]? = some x) : (l.take k ++ List.replicate (n - k) z).set k x = l.take (k + 1) ++ List.replicate (n - (k + 1)) z := by
  obtain ⟨d, hd⟩ : ∃ d, n - k = d + 1 := ⟨n - k - 1, by omega⟩
  have ht : (l.take k).length = k := by rw [List.length_take]; omega
  rw [hd, List.replicate_succ, List.set_append_right _ _ (by omega), ht, Nat.sub_self, List.set_cons_zero, List.take_add_one, hx, show n - (k + 1) = d by omega, List.append_assoc]; rfl
/-- Texts that lie in a row. -/
def StrsAt (w : World) (p : Option Addr) (l : List ByteArray) : Prop := ∀ (k : Nat) (s : ByteArray), l[k]? = some s → ∃ b off, p = some ⟨b, off, none⟩ ∧ b < w.heap.size ∧ w.cell? ⟨b, off + k, none⟩ = some (.string s)
theorem infoStr : (Try.prog.info? 9).map (fun i => (i.zero, i.size, i.bytes)) = some (some (.string ByteArray.empty), 1, 16) := by kernel_rfl
section
variable {W : World} {g f fcap : Nat} {room armed ops : Int} {off : Bool} {r : List Value} {xs : List Fil} {w w' : World}
set_option maxHeartbeats 4000000 in
theorem list_any (n : Nat) (hn : Hid (n = xs.length)) (hn1 : n ≤ 1000) (w : World) (hs : Hid (SN W g room off armed ops f fcap r xs w)) :
    Calls Try.prog 27 #[.pointer (some ⟨g, 0, none⟩)] w fun e w' => ∃ b, e = .returned (.slice (some ⟨b, 0, none⟩) n n) ∧ StrsAt w' (some ⟨b, 0, none⟩) (xs.map (·.name)) ∧ b < w'.heap.size ∧ w.heap.size ≤ b ∧ (∀ i, w'.frozen? ⟨b, i, none⟩ = false) ∧ Below w.heap.size w w' := by
  obtain ⟨i0, hi, hz0, hz1, hz2⟩ := info_parts infoStr
  have hz2' : i0.bytes * n ≤ 281474976710656 := by rw [hz2]; omega
  have hnm : n ≤ maxLen := by unfold maxLen; omega
  have g1 := hs.out.g1
  rw [← hn.out] at g1
  obtain ⟨L, hL⟩ : ∃ L : List Value, L = xs.map (fun x => .string x.name) := ⟨_, rfl⟩
  have HLL : Hid (L.length = n) := Lib.hid (by rw [hL, List.length_map]; exact hn.out.symm)
  have HLX : Hid (∀ (k : Nat) (x : Fil), xs[k]? = some x → L[k]? = some (.string x.name)) := Lib.hid fun k x hx => by rw [hL, List.getElem?_map, hx]; rfl
  obtain ⟨b, hb⟩ : ∃ b, b = w.heap.size := ⟨_, rfl⟩
  have HB := Lib.hid hb
  clear hb
  go_enter Try.func27, Try.ntmps27
  go_upto_region 4 with (refine wpList_make_full _ rfl (.tmp 12) (.tmp 12) 52 rfl w.heap.size 9 i0 (.string ByteArray.empty) 1 Try.underlying52 hi hz0 hz1 .i64 .i64 _ _ n rfl rfl rfl rfl hz2' hnm (Nat.le_refl _) ?_; intro w1 own hgr; rw [← HB.out] at own ⊢; have HO := Lib.hid own; have HG := Lib.hid hgr; clear own hgr)
  have HB1 : Hid (Below w.heap.size w w1) := Lib.hid ((Below.refl _ w).grown HG.out (Nat.le_refl _) (by intro k hk; cases hk))
  have HS1 := Lib.hid (hs.out.next HB1.out)
  have HO1 : Hid (w1.ownsRow w.heap.size 9 1 (.slice (some ⟨b, 0, none⟩) n n) n (L.take 0 ++ List.replicate (n - 0) (.string ByteArray.empty))) := Lib.hid (by
    have h := HO.out
    rw [Nat.mul_one, show (Value.string ByteArray.empty).cells = #[.string ByteArray.empty] from rfl, toList_madeCells_one] at h
    rw [List.take_zero, List.nil_append, Nat.sub_zero, HB.out]; rw [HB.out] at h; exact h)
  have c1 := HS1.out.g1
  rw [← hn.out] at c1
  clear HO g1 HG
  go_wp2
  clear c1
  go_loopw [19] (fun i wr => ∃ k : Nat, k ≤ n ∧ i = .int .i64 k ∧ wr.ownsRow w.heap.size 9 1 (.slice (some ⟨b, 0, none⟩) n n) n (L.take k ++ List.replicate (n - k) (.string ByteArray.empty)) ∧ Below w.heap.size w wr) (fun i _ => n - (intOf i).toNat)
  case atStart => exact ⟨0, Nat.zero_le _, rfl, HO1.out, HB1.out⟩
  case round =>
    obtain ⟨k, hk, rfl, hown, hbl⟩ := hrel
    have HOW := Lib.hid hown
    have HBL := Lib.hid hbl
    clear hown hbl HO1 HB1 HS1
    by_cases hkn : k < n
    · have hkl : k < xs.length := by have := hn.out; omega
      obtain ⟨x, hxe⟩ : ∃ x, xs[k]? = some x := ⟨xs[k], List.getElem?_eq_getElem hkl⟩
      have HX := Lib.hid hxe
      obtain ⟨c0, c1, c2, c3⟩ := (hs.out.next HBL.out).files k x hxe
      have HOW2 := Lib.hid (HOW.out.alloc (.cells #[.string x.name, .slice x.A x.l.length x.cap, .int .i64 (x.du : Nat)] 74))
      have hcb : ∃ v, (wr.alloc (.cells #[.string x.name, .slice x.A x.l.length x.cap, .int .i64 (x.du : Nat)] 74)).cell? ⟨b, k, none⟩ = some v := by
        rw [HOW2.out.cellAt k (by omega)]
        have h1 := HOW.out.1
        exact ⟨_, List.getElem?_eq_getElem (by omega)⟩
      obtain ⟨v, hv⟩ := hcb
      have hfb := HOW2.out.frozenAt k
      have HF := Lib.hid (fill_step L n k (.string ByteArray.empty) (.string x.name) HLL.out hkn (HLX.out k x hxe))
      have HST := Lib.hid (HOW2.out.stored k (.string x.name))
      have HBS : Hid (b = w.heap.size) := HB
      clear hxe
      go_wp2
      go_roundw
      case rel => exact ⟨k + 1, by omega, by go_num, by rw [← HF.out]; exact HST.out.1, ((HBL.out.alloc (by have := HBL.out.size; omega) _).setCell (by rw [HBS.out]; exact Nat.le_refl _) _)⟩
      case measure => simp [intOf]; omega
    · have hkn' : k = n := by omega
      subst hkn'
      go_wp2
      go_ret
      have hrow : ∃ cur, wr.heap[b]? = some (.cells cur 9 (0, 0)) := by
        rcases HOW.out.2 with ⟨h', _⟩ | ⟨g', cap', cur, h', _, hg, _⟩
        · cases h'
        · cases h'; exact ⟨cur, hg⟩
      obtain ⟨cur, hrow⟩ := hrow
      have hbs := (Array.getElem?_eq_some_iff.1 hrow).1
      refine ⟨b, rfl, fun j s hj => ⟨b, 0, rfl, hbs, ?_⟩, hbs, by rw [HB.out]; exact Nat.le_refl _, fun i => frozen_of_row _ _ _ _ _ hrow, HBL.out⟩
      have hjl := (List.getElem?_eq_some_iff.1 hj).1
      rw [List.length_map, ← hn.out] at hjl
      rw [Nat.zero_add, HOW.out.cellAt j (by omega), Nat.sub_self, List.replicate_zero, List.append_nil, List.take_of_length_le (by rw [HLL.out]; exact Nat.le_refl _)]
      rw [List.getElem?_map] at hj
      rcases hx : xs[j]? with _ | x
      · rw [hx] at hj; cases hj
      · rw [hx] at hj; injection hj with hj; rw [HLX.out j x hx, ← hj]
set_option maxHeartbeats 4000000 in
theorem list_none (w : World) (hs : Hid (S0 W g room off armed ops w)) :
    Calls Try.prog 27 #[.pointer (some ⟨g, 0, none⟩)] w fun e w' => ∃ b, e = .returned (.slice (some ⟨b, 0, none⟩) 0 0) ∧ Below w.heap.size w w' := by
  have hmk : ∀ w : World, (Instr.makeSlice 52 (.int .i64 0) (.int .i64 0)).run Try.prog w = .ok (.slice (some ⟨w.heap.size, 0, none⟩) 0 0) (w.alloc (.cells #[] 9)) := fun _ => by kernel_rfl
  have hb := (Below.refl w.heap.size w).alloc (Nat.le_refl _) (.cells #[] 9)
  have hs1 := hs.out.next hb
  have g0 := hs.out.g1
  have g1 := hs1.g1
  clear hs1 hb
  go_enter Try.func27, Try.ntmps27
  go_wp2
  refine wp_loop_rounds 1 ?_
  rw [rounds_succ]
  go_wp2
  go_ret
  exact ⟨_, rfl, (Below.refl w.heap.size w).alloc (Nat.le_refl _) _⟩
/-- List, whatever the files are. -/
theorem list_A (hn : xs.length ≤ 1000) (w : World) (hs : Hid (SA W g room off armed ops xs w)) :
    Calls Try.prog 27 #[.pointer (some ⟨g, 0, none⟩)] w fun e w' => ∃ b, e = .returned (.slice (some ⟨b, 0, none⟩) xs.length xs.length) ∧ StrsAt w' (some ⟨b, 0, none⟩) (xs.map (·.name)) ∧ Below w.heap.size w w' := by
  rcases hs.out with ⟨rfl, h⟩ | ⟨f, fcap, r, h⟩
  · refine (list_none w (Lib.hid h)).mono ?_
    rintro e w' ⟨b, rfl, hb⟩
    exact ⟨b, rfl, fun k s hk => by simp at hk, hb⟩
  · refine (list_any xs.length (Lib.hid rfl) hn w (Lib.hid h)).mono ?_
    rintro e w' ⟨b, rfl, h1, -, -, -, hb⟩
    exact ⟨b, rfl, h1, hb⟩
theorem sync_A {t : ByteArray} {lo : Nat} {x : Fil} {armed' : Int} (hn : xs.length ≤ 1000) (w : World) (hs : Hid (SA W g room false armed ops xs w)) (ht : Hid (There xs t lo x)) (ho : Hid (Op1 armed 0 armed' false)) (h : Hid (0 ≤ ops ∧ ops < 1000000000)) (ha : Hid (armed < 1000000000)) :
    Calls Try.prog 15 #[.pointer (some ⟨g, 0, none⟩), .string t] w fun e w' => e = .returned (.int .i64 0) ∧ SA W g room false armed' (ops + 1) (xs.set lo { x with du := x.l.length }) w' := by
  rcases hs.out with ⟨rfl, h0⟩ | ⟨f, fcap, r, hN⟩
  · have := ht.out.get; simp at this
  · refine (sync_yes hn w (Lib.hid hN) ht ho h ha).mono ?_
    rintro e w' ⟨rfl, h⟩
    exact ⟨rfl, .inr ⟨f, fcap, r, h⟩⟩
theorem read_A {t : ByteArray} {lo : Nat} {x : Fil} (hn : xs.length ≤ 1000) (w : World) (hl : x.l.length ≤ 100000000) (hs : Hid (SA W g room false armed ops xs w)) (ht : Hid (There xs t lo x)) :
    Calls Try.prog 25 #[.pointer (some ⟨g, 0, none⟩), .string t] w fun e w' => ∃ B c, e = .returned (.tuple #[.slice B x.l.length c, .int .i64 0]) ∧ OwnS w' w.heap.size B x.l.length c x.l ∧ Below w.heap.size w w' := by
  rcases hs.out with ⟨rfl, h0⟩ | ⟨f, fcap, r, hN⟩
  · have := ht.out.get; simp at this
  · exact read_yes hn w hl (Lib.hid hN) ht
set_option maxHeartbeats 4000000 in
theorem rename_A {t u : ByteArray} {i lo : Nat} {x : Fil} {armed' : Int} (hn : xs.length ≤ 1000) (hu : u.size ≤ 281474976710656) (hfu : formK u = true) (w : World) (hs : Hid (SA W g room false armed ops xs w)) (ht : Hid (There xs t i x)) (hp : Hid (Place (xs.eraseIdx i) u lo)) (ho : Hid (Op1 armed 0 armed' false)) (h : Hid (0 ≤ ops ∧ ops < 1000000000)) (ha : Hid (armed < 1000000000)) :
    Calls Try.prog 17 #[.pointer (some ⟨g, 0, none⟩), .string t, .string u] w fun e w' => e = .returned (.int .i64 0) ∧ SA W g room false armed' (ops + 1) (called xs i x u lo) w' := by
  rcases hs.out with ⟨rfl, h0⟩ | ⟨f, fcap, r, hN⟩
  · have := ht.out.get; simp at this
  have hil := ht.out.lt
  have hb := (Below.refl w.heap.size w).alloc (Nat.le_refl _) (.cells #[.string t, .string u] 9)
  have h' := hN.next hb
  have hR := refuses_any2 g w.heap.size t u false (w.alloc (.cells #[.string t, .string u] 9)) (by simp [World.cell?_alloc_new]) (by simp [World.cell?_alloc_new]) h'.g2
  rw [ht.out.form, hfu] at hR
  change Calls _ _ _ _ (fun e w' => e = .returned (.int .i64 0) ∧ _) at hR
  have HR := Lib.hid hR
  have HS := Lib.hid h'
  have HJ : Hid (xs.length - 1 + 1 = xs.length) := Lib.hid (by omega)
  clear hb h' hs hN hR
  go_enter Try.func17, Try.ntmps17
  go_wp2_with (first
    | (go_at_call 35; refine HR.out.mono ?_; rintro z w1 ⟨rfl, rfl⟩)
    | (go_at_call 43; refine (place_yes hn _ HS ht).mono ?_; rintro z w1 ⟨rfl, hb⟩; have HS1 := Lib.hid (HS.out.next hb); clear hb)
    | (go_at_call 39; refine (operate_N _ HS1.out ho.out h.out ha.out).mono ?_; rintro z w2 ⟨rfl, h2⟩; have HS2 := Lib.hid h2; clear h2)
    | (go_at_call 38; refine (ownName_any u hu _).mono ?_; rintro z w3 ⟨rfl, hb⟩; have HS3 := Lib.hid (HS2.out.next hb); clear hb)
    | (go_at_call 44; refine (call_any hn HJ (Lib.hid ht.out.get) hp _ HS3).mono ?_; rintro z w4 ⟨rfl, f', fcap', r', h4⟩; have HS4 := Lib.hid h4; clear h4))
  go_ret
  exact ⟨rfl, .inr ⟨_, _, _, HS4.out⟩⟩
end
end Go.Proofs.Ytafdhgofdocjhaa
