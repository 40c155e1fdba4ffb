/-
  Layer files: names kept; a file put behind the others.
-/
import Derived.Test.YtafdhgofdocjhaaFb
import Derived.Shelf.Strconv.Clone
set_option linter.unusedSimpArgs false
set_option linter.unusedVariables false
namespace Go.Proofs.Ytafdhgofdocjhaa
open Go.RowKit Go.WideShapes

def litLays_ren : Go.Shelf.Ren := ⟨fun | 316 => 58 | n => n, fun | 9 => 9 | 3 => 3 | 4 => 4 | 37 => 32 | 0 => 0 | 127 => 92 | 5 => 5 | n => n, fun n => n⟩
theorem litLays : Go.Proofs.LaysM.n316 Try.prog litLays_ren := {
  mixed := by kernel_rfl
  f316 := Try.func58.trans (congrArg some (by kernel_rfl))
  t0 := Try.underlying0
  a0 := Try.isAgg0
  z0 := Try.sizeOf0
  v0 := Try.zeroValue0
  t3 := Try.underlying3
  a3 := Try.isAgg3
  z3 := Try.sizeOf3
  v3 := Try.zeroValue3
  t4 := Try.underlying4
  a4 := Try.isAgg4
  z4 := Try.sizeOf4
  v4 := Try.zeroValue4
  t9 := Try.underlying9
  a9 := Try.isAgg9
  z9 := Try.sizeOf9
  v9 := Try.zeroValue9
  t37 := Try.underlying32
  a37 := Try.isAgg32
  z37 := Try.sizeOf32
  v37 := Try.zeroValue32
  t127 := Try.underlying92
  a127 := Try.isAgg92
  z127 := Try.sizeOf92
  v127 := Try.zeroValue92
  t5 := Try.underlying5
  a5 := Try.isAgg5
  z5 := Try.sizeOf5
  v5 := Try.zeroValue5
  i0 := by kernel_rfl
  i3 := by kernel_rfl
  i4 := by kernel_rfl
  i5 := by kernel_rfl
  i9 := by kernel_rfl
  i37 := by kernel_rfl
  i127 := by kernel_rfl }
theorem liteClone_any (s : ByteArray) (hs : s.size ≤ 281474976710656) (w : World) : Calls Try.prog 58 #[.string s] w fun e w' => e = .returned (.string s) ∧ Below w.heap.size w w' := by
  have h := Any.stringslite_Clone litLays s w hs
  change Calls Try.prog 58 _ _ _ at h
  exact h
set_option maxHeartbeats 400000 in
theorem strClone_any (s : ByteArray) (hs : s.size ≤ 281474976710656) (w : World) : Calls Try.prog 55 #[.string s] w fun e w' => e = .returned (.string s) ∧ Below w.heap.size w w' := by
  have H := Lib.hid fun w => liteClone_any s hs w
  clear hs
  go_enter Try.func55, Try.ntmps55
  go_wp2_with (go_at_call 58; refine (H.out _).mono ?_; rintro e w' ⟨rfl, hb⟩; have HB := Lib.hid hb; clear hb)
  go_ret
  exact ⟨rfl, HB.out⟩
set_option maxHeartbeats 400000 in
theorem ownName_any (s : ByteArray) (hs : s.size ≤ 281474976710656) (w : World) : Calls Try.prog 38 #[.string s] w fun e w' => e = .returned (.string s) ∧ Below w.heap.size w w' := by
  have H := Lib.hid fun w => strClone_any s hs w
  clear hs
  go_enter Try.func38, Try.ntmps38
  go_wp2_with (go_at_call 55; refine (H.out _).mono ?_; rintro e w' ⟨rfl, hb⟩; have HB := Lib.hid hb; clear hb)
  go_ret
  exact ⟨rfl, HB.out⟩

/-- A row of files that the store owns: their cells. -/
def OwnX (w : World) (B : Nat) (F : Option Addr) (k cap : Nat) (xs : List Value) : Prop := w.ownsRow B 74 3 (.slice F k cap) k xs
theorem infoFile : (Try.prog.info? 74).map (fun i => (i.zero, i.size, i.bytes)) = some (some (.agg #[.string ByteArray.empty, .slice none 0 0, .int .i64 0]), 3, 48) := by kernel_rfl
theorem run_append_x (w : World) (B : Nat) (F : Option Addr) (k cap : Nat) (xs : List Value) (hown : OwnX w B F k cap xs) (ad : Addr) (m c : Nat) (ys : List Value) (hl : ys.length = m * 3) (h2 : ∀ j u, ys[j]? = some u → w.cell? (ad.add j) = some u) (h1 : ∀ u ∈ ys, u.oneCell' = true)
    (hk : k + m ≤ 1000000) (hbase : B ≤ w.heap.size) (ty : TypeId) :
    ∃ F' cap' w', (Builtin.append_ #[66, 66] ty #[.slice F k cap, .slice (some ad) m c]).run Try.prog w = .ok (.slice F' (k + m) cap') w' ∧ OwnX w' B F' (k + m) cap' (xs ++ ys) ∧ w.grownBy w' (F.map (·.block)) ∧
      (F'.map (·.block) = F.map (·.block) ∨ F'.map (·.block) = some w.heap.size) := by
  obtain ⟨i0, hi, hz0, hz1, hz2⟩ := info_parts infoFile
  obtain ⟨v', w', hr, h3, h4, h5, h6⟩ := run_append_own_at (P := Try.prog) w B 66 ty 74 i0 _ 3 48 Try.underlying66 hi hz0 hz1 hz2 rfl (by decide) _ k xs hown ad m c ys hl h2 h1 (by unfold maxLen; omega) (by omega) hbase
  rcases h3.2 with ⟨rfl, h0⟩ | ⟨g, cap', cur, rfl, hb, hrest⟩
  · have hn0 : k = 0 := by omega
    have hm0 : m = 0 := by omega
    subst hn0; subst hm0
    exact ⟨none, 0, w', hr, h3, by rcases F with _ | _ <;> exact h4, by
      rcases F with _ | _
      · exact .inl rfl
      · exact h6⟩
  · exact ⟨_, _, w', hr, h3, by rcases F with _ | _ <;> exact h4, by rcases F with _ | _ <;> exact h6⟩
theorem wpList_append_x {w : World} {ops : Array Oper} {rest : List Oper} {o : Oper} {a : Act} {Q : Exit → Act → World → Prop} (hgd : o.guard = none) (s x : Operand)
    (ho : o.op = .call { callee := .builtin .append, args := #[s, x], argTypes := #[66, 66] })
    (B : Nat) (F : Option Addr) (k cap : Nat) (xs : List Value) (hs : a.eval s = .slice F k cap) (hown : OwnX w B F k cap xs) (ad : Addr) (m c : Nat) (ys : List Value) (hx : a.eval x = .slice (some ad) m c) (hl : ys.length = m * 3) (h2 : ∀ j u, ys[j]? = some u → w.cell? (ad.add j) = some u) (h1 : ∀ u ∈ ys, u.oneCell' = true)
    (hk : k + m ≤ 1000000) (hbase : B ≤ w.heap.size)
    (h : ∀ F' cap' w', OwnX w' B F' (k + m) cap' (xs ++ ys) → w.grownBy w' (F.map (·.block)) → (F'.map (·.block) = F.map (·.block) ∨ F'.map (·.block) = some w.heap.size) → wpList Try.prog ops Q rest (a.put o.dst (.slice F' (k + m) cap')) w') : wpList Try.prog ops Q (o :: rest) a w := by
  refine wpList_plain hgd fun K hK => ?_
  obtain ⟨F', cap', w', hr, h3, h4, h5⟩ := run_append_x w B F k cap xs hown ad m c ys hl h2 h1 hk hbase o.type
  unfold Oper.wp execOp
  simp only [ho, resolve, invoke, builtin, Sem.run_bind, Sem.run_pure, Result.andThen_ok, List.map_toArray, List.map_cons, List.map_nil, hs, hx, hr]
  exact hK _ _ (h F' cap' w' h3 h4 h5)
theorem OwnX.caps {w : World} {B k cap : Nat} {F : Option Addr} {xs : List Value} (h : OwnX w B F k cap xs) : k ≤ cap := by
  rcases h.2 with ⟨h1, h2⟩ | ⟨g, cap', cur, h1, -, -, h2, h3, -⟩
  · cases h1; exact Nat.le_refl _
  · cases h1; exact h2
theorem sliceX_run (F : Option Addr) (k cap : Nat) (h : k ≤ cap) : ∃ R, ∀ w, (Instr.slice 66 (.slice F k cap) (some (.int .i64 (k : Int))) none none).run Try.prog w = .ok R w := by
  refine ⟨sliced F k k cap 3, fun w => ?_⟩
  rw [run_slice_l w 66 F k cap Try.underlying66 .i64 (k : Int) (by omega) (by omega)]
  rw [show (Go.sizeOf (Try.prog.elem 66)).run Try.prog w = .ok 3 w from by kernel_rfl]
  simp [Result.andThen, sliced]
def InsX (w : World) (B : Nat) (F : Option Addr) (k : Nat) (xs ys : List Value) (e : Ending) (w' : World) : Prop :=
  ∃ F' cap', e = .returned (.slice F' (k + 1) cap') ∧ OwnX w' B F' (k + 1) cap' (xs ++ ys) ∧ w.grownBy w' (F.map (·.block)) ∧ (F'.map (·.block) = F.map (·.block) ∨ F'.map (·.block) = some w.heap.size)
set_option maxHeartbeats 1000000 in
theorem insert_end (B : Nat) (F : Option Addr) (k cap h : Nat) (xs : List Value) (c0 c1 c2 : Value) (hk : k ≤ 100000) (w : World) (hown : Hid (OwnX w B F k cap xs)) (hB : Hid (B ≤ w.heap.size)) (h1 : Hid (∀ u ∈ [c0, c1, c2], u.oneCell' = true))
    (hc : Hid (∀ (j : Nat) (u : Value), [c0, c1, c2][j]? = some u → w.cell? ((⟨h, 0, none⟩ : Addr).add j) = some u)) :
    Calls Try.prog 37 #[.slice F k cap, .int .i64 k, .slice (some ⟨h, 0, none⟩) 1 1] w (InsX w B F k xs [c0, c1, c2]) := by
  obtain ⟨R, hR⟩ := sliceX_run F k cap hown.out.caps
  go_enter Try.func37, Try.ntmps37
  go_wp2_with (refine wpList_append_x rfl (.tmp 23) (.tmp 24) rfl B F k cap xs rfl hown.out ⟨h, 0, none⟩ 1 1 [c0, c1, c2] rfl rfl hc.out h1.out (by omega) hB.out ?_; intro F' cap' w1 own hgr hblk; have HO := Lib.hid own; have HG := Lib.hid hgr; have HK := Lib.hid hblk; clear own hgr hblk)
  go_ret
  exact ⟨F', cap', rfl, HO.out, HG.out, HK.out⟩
end Go.Proofs.Ytafdhgofdocjhaa
