/-
  Lists of bytes that a call owns; append of bytes; cuts; slices.Clone.
-/
import Derived.Test.YtamdonglbdmckaaDoorGw
import Derived.Maps.AppendAt
import Derived.Deep.RegionHeld3
import Derived.Deep.Draws
set_option linter.unusedSimpArgs false
set_option linter.unusedVariables false
namespace Go.Proofs.YtamdonglbdmckaaDoor
open Go.RowKit

/-- A slice of bytes that the call owns: its block lies from B on. -/
def OwnS (w : World) (B : Nat) (A : Option Addr) (n cap : Nat) (l : List Nat) : Prop := w.ownsRow B 5 1 (.slice A n cap) n (bys l) ∧ ∀ x ∈ l, x < 256
section
variable {w w' : World} {B n cap : Nat} {A : Option Addr} {l : List Nat}
theorem OwnS.len (h : OwnS w B A n cap l) : n = l.length := by have := h.1.1; rw [bys_length] at this; omega
theorem OwnS.caps (h : OwnS w B A n cap l) : n ≤ cap ∧ cap ≤ maxLen := by
  rcases h.1.2 with ⟨h1, h2⟩ | ⟨g, cap', cur, h1, -, -, h2, h3, -⟩
  · cases h1; exact ⟨Nat.le_refl _, Nat.zero_le _⟩
  · cases h1; exact ⟨h2, h3⟩
theorem OwnS.byAt (h : OwnS w B A n cap l) : ByAt w A l := by
  rcases h.1.2 with ⟨h1, h2⟩ | ⟨g, cap', cur, h1, hb, hrow, -, -, hs, ht⟩
  · have := h.len
    have hl : l = [] := List.eq_nil_of_length_eq_zero (by omega)
    subst hl; exact ByAt.nil _ _
  · cases h1
    exact ByAt.of_row l h.2 hrow ⟨cur.toList.drop (n * 1), by rw [← ht, List.take_append_drop]⟩
theorem OwnS.nil (w : World) (B : Nat) : OwnS w B none 0 0 [] := ⟨w.ownsRow_nil B _ 1, fun x hx => by cases hx⟩
theorem OwnS.keep (h : OwnS w B A n cap l) (hb : Below w.heap.size w w') : OwnS w' B A n cap l :=
  ⟨h.1.kept (row := none) ⟨hb.os, hb.tape, hb.output, hb.size, fun k hk _ => hb.block k hk⟩ (by rcases A with _ | a <;> simp [Value.ownBlock]), h.2⟩
theorem OwnS.more {B' : Nat} (h : OwnS w B A n cap l) (hB : B' ≤ B) : OwnS w B' A n cap l := by
  refine ⟨⟨h.1.1, ?_⟩, h.2⟩
  rcases h.1.2 with h1 | ⟨g, cap', cur, h1, hb, h2⟩
  · exact .inl h1
  · exact .inr ⟨g, cap', cur, h1, Nat.le_trans hB hb, h2⟩
end
theorem infoU8 : (Tryd.prog.info? 5).map (fun i => (i.zero, i.size, i.bytes)) = some (some (.int .u8 0), 1, 1) := by kernel_rfl
theorem bys_one (l : List Nat) : ∀ u ∈ bys l, u.oneCell' = true := fun u hu => by
  obtain ⟨x, -, rfl⟩ := List.mem_map.1 hu; rfl
theorem addr_add (g off j : Nat) : (⟨g, off, none⟩ : Addr).add j = ⟨g, off + j, none⟩ := by unfold Addr.add; split <;> simp_all
theorem bys_append (l m : List Nat) : bys (l ++ m) = bys l ++ bys m := List.map_append ..
theorem bys_at {w : World} {a : Addr} {l : List Nat} (h : ByAt w (some a) l) (j : Nat) (u : Value) (hu : (bys l)[j]? = some u) : w.cell? (a.add j) = some u := by
  unfold bys at hu
  rw [List.getElem?_map] at hu
  rcases hx : l[j]? with _ | x
  · rw [hx] at hu; cases hu
  · rw [hx] at hu
    obtain ⟨-, g, off, e, -, hc⟩ := h j x hx
    cases e
    rw [addr_add, hc]; exact hu

/-- append of bytes, the source nil, empty or not. -/
theorem run_append_by (w : World) (B : Nat) (A : Option Addr) (n cap : Nat) (l : List Nat) (hown : OwnS w B A n cap l) (a : Option Addr) (m c : Nat) (l2 : List Nat) (hm : m = l2.length) (h2 : ByAt w a l2)
    (hbytes : n + m ≤ 140737488355328) (hbase : B ≤ w.heap.size) (ty : TypeId) :
    ∃ A' cap' w', (Builtin.append_ #[22, 22] ty #[.slice A n cap, .slice a m c]).run Tryd.prog w = .ok (.slice A' (n + m) cap') w' ∧ OwnS w' B A' (n + m) cap' (l ++ l2) ∧ w.grownBy w' (A.map (·.block)) ∧
      (A'.map (·.block) = A.map (·.block) ∨ A'.map (·.block) = some w.heap.size) := by
  obtain ⟨i0, hi, hz0, hz1, hz2⟩ := info_parts infoU8
  have hlt : ∀ x ∈ l ++ l2, x < 256 := fun x hx => by
    rcases List.mem_append.1 hx with h | h
    · exact hown.2 x h
    · exact h2.lt x h
  rcases a with _ | ad
  · have hl2 : l2 = [] := by
      rcases l2 with _ | ⟨x, r⟩
      · rfl
      · obtain ⟨-, g, off, e, -⟩ := h2 0 x rfl; cases e
    subst hl2
    have h0 : m = 0 := hm
    subst h0
    refine ⟨A, cap, w, ?_, by rw [Nat.add_zero, List.append_nil]; exact hown, World.grownBy.refl w _, .inl rfl⟩
    rcases hown.1.2 with ⟨h1, h3⟩ | ⟨g, cap', cur, h1, _, _, hnc, _⟩
    · cases h1
      simp [Builtin.append_, run_underlying Tryd.underlying22, Go.sizeOf, typeInfo, hi, Builtin.lenOf, Builtin.firstCells]
    · cases h1
      simp [Builtin.append_, run_underlying Tryd.underlying22, Go.sizeOf, typeInfo, hi, Builtin.lenOf, Builtin.firstCells, hnc, storeCells]
  · obtain ⟨v', w', hr, h3, h4, h5, h6⟩ := run_append_own_at (P := Tryd.prog) w B 22 ty 5 i0 (.int .u8 0) 1 1 Tryd.underlying22 hi hz0 hz1 hz2 rfl (by decide) _ n (bys l) hown.1 ad m c (bys l2) (by rw [bys_length, hm, Nat.mul_one]) (bys_at h2) (bys_one l2) (by unfold maxLen; omega) (by omega) hbase
    rw [← bys_append] at h3
    rcases h3.2 with ⟨rfl, h0⟩ | ⟨g, cap', cur, rfl, hb, hrest⟩
    · have hn0 : n = 0 := by omega
      have hm0 : m = 0 := by omega
      subst hn0; subst hm0
      exact ⟨none, 0, w', hr, ⟨h3, hlt⟩, by rcases A with _ | _ <;> exact h4, by
        rcases A with _ | _
        · exact .inl rfl
        · exact h6⟩
    · exact ⟨_, _, w', hr, ⟨h3, hlt⟩, by rcases A with _ | _ <;> exact h4, by
        rcases A with _ | _ <;> exact h6⟩

theorem wpList_append_by {w : World} {ops : Array Oper} {rest : List Oper} {o : Oper} {a : Act} {Q : Exit → Act → World → Prop} (hgd : o.guard = none) (s x : Operand)
    (ho : o.op = .call { callee := .builtin .append, args := #[s, x], argTypes := #[22, 22] })
    (B : Nat) (A : Option Addr) (n cap : Nat) (l : List Nat) (hs : a.eval s = .slice A n cap) (hown : OwnS w B A n cap l) (b : Option Addr) (m c : Nat) (l2 : List Nat) (hx : a.eval x = .slice b m c) (hm : m = l2.length) (h2 : ByAt w b l2)
    (hbytes : n + m ≤ 140737488355328) (hbase : B ≤ w.heap.size)
    (h : ∀ A' cap' w', OwnS w' B A' (n + m) cap' (l ++ l2) → w.grownBy w' (A.map (·.block)) → (A'.map (·.block) = A.map (·.block) ∨ A'.map (·.block) = some w.heap.size) → wpList Tryd.prog ops Q rest (a.put o.dst (.slice A' (n + m) cap')) w') : wpList Tryd.prog ops Q (o :: rest) a w := by
  refine wpList_plain hgd fun K hK => ?_
  obtain ⟨A', cap', w', hr, h3, h4, h5⟩ := run_append_by w B A n cap l hown b m c l2 hm h2 hbytes hbase o.type
  unfold Oper.wp execOp
  simp only [ho, resolve, invoke, builtin, Sem.run_bind, Sem.run_pure, Result.andThen_ok, List.map_toArray, List.map_cons, List.map_nil, hs, hx, hr]
  exact hK _ _ (h A' cap' w' h3 h4 h5)

/-- A call that returns bytes of its own. -/
def RetS (w : World) (l : List Nat) (e : Ending) (w' : World) : Prop := ∃ A cap, e = .returned (.slice A l.length cap) ∧ OwnS w' w.heap.size A l.length cap l ∧ Below w.heap.size w w'

set_option maxHeartbeats 1000000 in
theorem clone_any (a : Option Addr) (l : List Nat) (len cap : Nat) (hlen : Hid (len = l.length)) (hl : len ≤ 140737488355328) (w : World) (HA : Hid (ByAt w a l)) :
    Calls Tryd.prog 22 #[.slice a len cap] w (RetS w l) := by
  have q22 : ∀ (w : World) (a : Option Addr) (n c n' c' : Nat), (binOp .eql 22 (.slice a n c) (.slice none n' c')).run Tryd.prog w = .ok (.bool a.isNone) w := fun w a n c n' c' => Lib.run_eql_slice_nil w _ _ a n c n' c' Tryd.underlying22
  have hl9 : len ≤ maxLen := by unfold maxLen; omega
  rcases a with _ | ad
  · have e : l = [] := by
      rcases l with _ | ⟨x, r⟩
      · rfl
      · obtain ⟨-, g, off, e, -⟩ := HA.out 0 x rfl; cases e
    subst e
    have e : len = 0 := hlen.out
    subst e
    go_enter Tryd.func22, Tryd.ntmps22
    go_wp2
    go_ret
    exact ⟨none, 0, rfl, OwnS.nil _ _, Below.refl _ _⟩
  · have HA1 : Hid (ByAt (w.alloc (.cells #[] 5)) (some ad) l) := Lib.hid (HA.out.keep ((Below.refl _ _).alloc (Nat.le_refl _) _))
    have HO : Hid (OwnS (w.alloc (.cells #[] 5)) w.heap.size (some ⟨w.heap.size, 0, none⟩) 0 0 []) := Lib.hid ⟨World.ownsRow_made w #[] 0 (Nat.le_refl _) (Nat.zero_le _) (by simp), fun x hx => by cases hx⟩
    go_enter Tryd.func22, Tryd.ntmps22
    go_wp2_with (at_builtin; refine wpList_append_by rfl (.tmp 5) (.tmp 6) rfl w.heap.size (some ⟨w.heap.size, 0, none⟩) 0 0 [] rfl HO.out (some ad) len cap l rfl hlen.out HA1.out (by omega) (by simp) ?_; intro A' cap' w' hO hG hL)
    go_ret
    rw [Nat.zero_add, List.nil_append, hlen.out] at hO
    exact ⟨A', cap', by rw [← hlen.out]; rfl, hO, ((Below.refl _ w).alloc (Nat.le_refl _) _).grown hG (by simp) (by intro k hk; simp at hk; omega)⟩

/-! Cuts -/
theorem cut_from (a : Option Addr) (len cap k : Nat) (hk : k ≤ len) (hc : len ≤ cap) :
    ∃ A C, (∀ w, (Instr.slice 22 (.slice a len cap) (some (.int .i64 (k : Int))) none none).run Tryd.prog w = .ok (.slice A (len - k) C) w) ∧ len - k ≤ C ∧ C ≤ cap ∧ ∀ w l, len = l.length → ByAt w a l → ByAt w A (l.drop k) := by
  refine ⟨if cap = k then a else a.map (·.add k), cap - k, fun w => ?_, by omega, by omega, fun w l hl h j x hx => ?_⟩
  · rw [run_slice_l w 22 a len cap Tryd.underlying22 .i64 (k : Int) (by omega) (by omega)]
    rw [show (Go.sizeOf (Tryd.prog.elem 22)).run Tryd.prog w = .ok 1 w from by kernel_rfl]
    simp [Result.andThen, sliced]
  · rw [List.getElem?_drop] at hx
    obtain ⟨h1, g, off, rfl, hg, hcell⟩ := h _ _ hx
    have hkl := (List.getElem?_eq_some_iff.1 hx).1
    rw [if_neg (by omega)]
    exact ⟨h1, g, off + k, by simp [addr_add], hg, by rw [Nat.add_assoc]; exact hcell⟩
theorem cut_to (a : Option Addr) (len cap k : Nat) (hk : k ≤ len) (hc : len ≤ cap) :
    ∃ A, (∀ w, (Instr.slice 22 (.slice a len cap) none (some (.int .i64 (k : Int))) none).run Tryd.prog w = .ok (.slice A k cap) w) ∧ ∀ w l, len = l.length → ByAt w a l → ByAt w A (l.take k) := by
  refine ⟨if cap = 0 then a else a.map (·.add 0), fun w => ?_, fun w l hl h j x hx => ?_⟩
  · rw [run_slice_h w 22 a len cap Tryd.underlying22 .i64 (k : Int) (by omega) (by omega)]
    rw [show (Go.sizeOf (Tryd.prog.elem 22)).run Tryd.prog w = .ok 1 w from by kernel_rfl]
    simp [Result.andThen, sliced]
  · rw [List.getElem?_take] at hx
    split at hx
    · obtain ⟨h1, g, off, rfl, hg, hcell⟩ := h _ _ hx
      exact ⟨h1, g, off, by simp [addr_add], hg, hcell⟩
    · cases hx
theorem cut_mid (a : Option Addr) (len cap i j : Nat) (hi : i ≤ j) (hj : j ≤ len) (hc : len ≤ cap) :
    ∃ A C, (∀ w, (Instr.slice 22 (.slice a len cap) (some (.int .i64 (i : Int))) (some (.int .i64 (j : Int))) none).run Tryd.prog w = .ok (.slice A (j - i) C) w) ∧ j - i ≤ C ∧ C ≤ cap ∧ ∀ w l, len = l.length → ByAt w a l → ByAt w A ((l.drop i).take (j - i)) := by
  refine ⟨if cap = i then a else a.map (·.add i), cap - i, fun w => ?_, by omega, by omega, fun w l hl h m x hx => ?_⟩
  · rw [run_slice_lh w 22 a len cap Tryd.underlying22 .i64 .i64 (i : Int) (j : Int) (by omega) (by omega) (by omega)]
    rw [show (Go.sizeOf (Tryd.prog.elem 22)).run Tryd.prog w = .ok 1 w from by kernel_rfl]
    simp [Result.andThen, sliced]
  · rw [List.getElem?_take] at hx
    split at hx
    · rw [List.getElem?_drop] at hx
      obtain ⟨h1, g, off, rfl, hg, hcell⟩ := h _ _ hx
      have hkl := (List.getElem?_eq_some_iff.1 hx).1
      rw [if_neg (by omega)]
      exact ⟨h1, g, off + i, by simp [addr_add], hg, by rw [Nat.add_assoc]; exact hcell⟩
    · cases hx
end Go.Proofs.YtamdonglbdmckaaDoor
