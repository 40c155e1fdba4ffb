/-
  Layer files: what a fall leaves; Read, List, Restart of a store with one file.
-/
import Derived.Test.YtafdhgofdocjhaaFg
set_option linter.unusedSimpArgs false
set_option linter.unusedVariables false
namespace Go.Proofs.Ytafdhgofdocjhaa
open Go.RowKit Go.WideShapes

set_option maxHeartbeats 1000000 in
theorem clone_any (a : Option Addr) (l : List Nat) (len cap : Nat) (hlen : Hid (len = l.length)) (hl : len ≤ 140737488355328) (w : World) (HA : Hid (ByAt w a l)) :
    Calls Try.prog 48 #[.slice a len cap] w (RetS w l) := by
  have q22 : ∀ (w : World) (a : Option Addr) (n c n' c' : Nat), (binOp .eql 32 (.slice a n c) (.slice none n' c')).run Try.prog w = .ok (.bool a.isNone) w := fun w a n c n' c' => Lib.run_eql_slice_nil w _ _ a n c n' c' Try.underlying32
  have hl9 : len ≤ maxLen := by unfold maxLen; omega
  rcases a with _ | ad
  · have e : l = [] := by
      rcases l with _ | ⟨x, r⟩
      · rfl
      · obtain ⟨-, g, off, e, -⟩ := HA.out 0 x rfl; cases e
    subst e
    have e : len = 0 := hlen.out
    subst e
    go_enter Try.func48, Try.ntmps48
    go_wp2
    go_ret
    exact ⟨none, 0, rfl, OwnS.nil _ _, Below.refl _ _⟩
  · have HA1 : Hid (ByAt (w.alloc (.cells #[] 5)) (some ad) l) := Lib.hid (HA.out.keep ((Below.refl _ _).alloc (Nat.le_refl _) _))
    have HO : Hid (OwnS (w.alloc (.cells #[] 5)) w.heap.size (some ⟨w.heap.size, 0, none⟩) 0 0 []) := Lib.hid ⟨World.ownsRow_made w #[] 0 (Nat.le_refl _) (Nat.zero_le _) (by simp), fun x hx => by cases hx⟩
    go_enter Try.func48, Try.ntmps48
    go_wp2_with (at_builtin; refine wpList_append_by rfl (.tmp 5) (.tmp 6) rfl w.heap.size (some ⟨w.heap.size, 0, none⟩) 0 0 [] rfl HO.out (some ad) len cap l rfl hlen.out HA1.out (by omega) (by simp) ?_; intro A' cap' w' hO hG hL)
    go_ret
    rw [Nat.zero_add, List.nil_append, hlen.out] at hO
    exact ⟨A', cap', by rw [← hlen.out]; rfl, hO, ((Below.refl _ w).alloc (Nat.le_refl _) _).grown hG (by simp) (by intro k hk; simp at hk; omega)⟩

/-- How many bytes stay. -/
def stay (n du : Nat) (kept : Int) : Nat := if kept < 0 ∨ (n : Int) - du < kept then n else du + kept.toNat
theorem stay_le (n du : Nat) (kept : Int) (h : du ≤ n) : stay n du kept ≤ n := by unfold stay; split <;> omega
theorem OwnS.cut {w : World} {B n cap : Nat} {A : Option Addr} {l : List Nat} (h : OwnS w B A n cap l) (k : Nat) (hk : k ≤ n) : OwnS w B A k cap (l.take k) := by
  have hn := h.len
  rcases h.1.2 with ⟨h1, h2⟩ | ⟨g, cap', cur, h1, hb, hrow, hnc, hc, hs, ht⟩
  · cases h1
    obtain rfl : k = 0 := by omega
    rw [List.take_zero]; exact OwnS.nil _ _
  · cases h1
    refine ⟨⟨by rw [bys_length, List.length_take]; omega, .inr ⟨g, cap, cur, rfl, hb, hrow, by omega, hc, hs, ?_⟩⟩, fun x hx => h.2 x (List.mem_of_mem_take hx)⟩
    have h3 : bys (l.take k) = (bys l).take k := by unfold bys; rw [List.map_take]
    rw [h3, ← ht, Nat.mul_one, Nat.mul_one, List.take_take, Nat.min_eq_left hk]
theorem own_slice {w : World} {B n cap : Nat} {A : Option Addr} {l : List Nat} (h : OwnS w B A n cap l) (k : Nat) (hk : k ≤ n) : ∀ w', (Instr.slice 32 (.slice A n cap) none (some (.int .i64 (k : Int))) none).run Try.prog w' = .ok (.slice A k cap) w' := fun w' => by
  have hc := h.caps
  rw [run_slice_h w' 32 A n cap Try.underlying32 .i64 (k : Int) (by omega) (by omega)]
  rw [show (Go.sizeOf (Try.prog.elem 32)).run Try.prog w' = .ok 1 w' from by kernel_rfl]
  rcases h.1.2 with ⟨h1, h2⟩ | ⟨g, cap', cur, h1, -⟩
  · cases h1; simp [Result.andThen, sliced]
  · cases h1; simp [Result.andThen, sliced, Addr.add]
section
variable {W : World} {g f fcap cap : Nat} {room armed ops : Int} {off : Bool} {r : List Value} {A : Option Addr} {l : List Nat}
theorem S1.cut {w : World} {d : Int} (h : S1 W g room off armed ops f fcap r A cap l d w) (k : Nat) (hk : k ≤ l.length) : S1 W g room off armed ops f fcap r A cap (l.take k) k ((w.setCell ⟨f, 2, none⟩ (.int .i64 k)).drew.setCell ⟨f, 1, none⟩ (.slice A k cap)) := by
  have h1 := (h.putDu k).drew
  have hl : (l.take k).length = k := by rw [List.length_take]; omega
  refine ⟨gb_set h1.below (.inr h1.fbase) _ _, h1.fbase, h1.ne, row_far (Ne.symm h1.ne) h1.st, ?_, h1.fc, ?_, h1.sg, h1.sf⟩
  · rw [hl]; exact row_set h1.fl 1 _
  · rw [hl]; exact own_far (h1.own.cut k hk) h1.sf
set_option maxHeartbeats 4000000 in
theorem fall_1 (du : Nat) (kept : Int) (hk : -1000000000000 ≤ kept ∧ kept ≤ 1000000000000) (k : Nat) (hst : Hid (k = stay l.length du kept)) (hdu : du ≤ l.length) (hl : l.length ≤ 100000000) (w : World) (hs : Hid (S1 W g room off armed ops f fcap r A cap l du w)) :
    Calls Try.prog 47 #[.pointer (some ⟨f, 0, none⟩), .int .i64 kept] w fun e w' => e = .returned (.tuple #[]) ∧ S1 W g room off armed ops f fcap r A cap (l.take k) k w' := by
  obtain ⟨k1, k2⟩ := hk
  have hkl : k ≤ l.length := by rw [hst.out]; exact stay_le _ _ _ hdu
  have HSL := Lib.hid (own_slice hs.out.own k hkl)
  have HS1 := Lib.hid hs.out.drew
  have c1 := HS1.out.f1
  have c2 := HS1.out.f2
  have hw1 : IntKind.i64.wrap ((l.length : Int) - (du : Int)) = (l.length : Int) - (du : Int) := IntWalk.i64_in _ (by omega)
  have hcase : (kept < 0 ∧ k = l.length) ∨ ((0 ≤ kept ∧ (l.length : Int) - du < kept) ∧ k = l.length) ∨ ((0 ≤ kept ∧ kept ≤ (l.length : Int) - du) ∧ (k : Int) = du + kept) := by
    have h := hst.out
    unfold stay at h
    by_cases h1 : kept < 0
    · rw [if_pos (.inl h1)] at h; exact .inl ⟨h1, h⟩
    · by_cases h2 : (l.length : Int) - du < kept
      · rw [if_pos (.inr h2)] at h; exact .inr (.inl ⟨⟨by omega, h2⟩, h⟩)
      · rw [if_neg (by omega)] at h; exact .inr (.inr ⟨⟨by omega, by omega⟩, by omega⟩)
  go_enter Try.func47, Try.ntmps47
  go_upto_region 0 with fail
  go_still_tail 10, (by kernel_rfl)
  change wpList _ _ _ _ _ (World.drew _)
  generalize World.drew w = w1 at *
  have HC1 := Lib.hid c1
  have kf1 := HS1.out.ff 2
  clear hs hst hw1
  rcases hcase with ⟨h1, h3⟩ | ⟨⟨h1, h2⟩, h3⟩ | ⟨⟨h1, h2⟩, h3⟩
  · have hsum : (du : Int) + ((l.length : Int) - (du : Int)) = (k : Int) := by omega
    clear h3
    go_upto_region 4 with fail
    have hq := HS1.out.putDu k
    have HCUT := Lib.hid (HS1.out.cut k hkl)
    generalize World.setCell w1 _ _ = wa at *
    have d1 := hq.drew.f1
    have d2 := hq.drew.f2
    have dk := hq.drew.ff 1
    have sl := HSL.out
    clear hq c1 c2 kf1 hsum
    go_still_tail 12, (by kernel_rfl)
    change wpList _ _ _ _ _ (World.drew _)
    generalize World.drew _ = wz at *
    go_wp2
    go_end0
    exact ⟨rfl, HCUT.out⟩
  · have hsum : (du : Int) + ((l.length : Int) - (du : Int)) = (k : Int) := by omega
    clear h3
    go_upto_region 4 with fail
    have hq := HS1.out.putDu k
    have HCUT := Lib.hid (HS1.out.cut k hkl)
    generalize World.setCell w1 _ _ = wa at *
    have d1 := hq.drew.f1
    have d2 := hq.drew.f2
    have dk := hq.drew.ff 1
    have sl := HSL.out
    clear hq c1 c2 kf1 hsum
    go_still_tail 12, (by kernel_rfl)
    change wpList _ _ _ _ _ (World.drew _)
    generalize World.drew _ = wz at *
    go_wp2
    go_end0
    exact ⟨rfl, HCUT.out⟩
  · have hsum : (du : Int) + kept = (k : Int) := by omega
    clear h3
    go_upto_region 4 with fail
    have hq := HS1.out.putDu k
    have HCUT := Lib.hid (HS1.out.cut k hkl)
    generalize World.setCell w1 _ _ = wa at *
    have d1 := hq.drew.f1
    have d2 := hq.drew.f2
    have dk := hq.drew.ff 1
    have sl := HSL.out
    clear hq c1 c2 kf1 hsum
    go_still_tail 12, (by kernel_rfl)
    change wpList _ _ _ _ _ (World.drew _)
    generalize World.drew _ = wz at *
    go_wp2
    go_end0
    exact ⟨rfl, HCUT.out⟩
set_option maxHeartbeats 2000000 in
theorem read_1 {du : Int} (w : World) (hl : l.length ≤ 100000000) (hs : Hid (S1 W g room false armed ops f fcap r A cap l du w)) :
    Calls Try.prog 25 #[.pointer (some ⟨g, 0, none⟩), .string { data := #[97] }] w fun e w' => ∃ B c, e = .returned (.tuple #[.slice B l.length c, .int .i64 0]) ∧ OwnS w' w.heap.size B l.length c l ∧ Below w.heap.size w w' := by
  go_enter Try.func25, Try.ntmps25
  go_wp2_with (first
    | (go_at_call 43; refine (place_1 _ hs).mono ?_; rintro x w1 ⟨rfl, hb⟩; have HS1 := Lib.hid (hs.out.next hb); have HB := Lib.hid hb; have c1 := HS1.out.g1; have c2 := HS1.out.f1; clear hb)
    | (go_at_call 48; refine (clone_any A l l.length cap rfl (by omega) _ (Lib.hid HS1.out.own.byAt)).mono ?_; rintro x w2 ⟨B, c, rfl, own, hb⟩; have HO := Lib.hid own; have HB2 := Lib.hid hb; clear own hb))
  go_ret2
  exact ⟨B, c, rfl, HO.out.more HB.out.size, below_to HB.out HB2.out⟩
theorem read_off (g : Nat) (w : World) (h2 : w.cell? ⟨g, 2, none⟩ = some (.bool true)) :
    Calls Try.prog 25 #[.pointer (some ⟨g, 0, none⟩), .string { data := #[97] }] w fun e w' => e = .returned (.tuple #[.slice none 0 0, .int .i64 9]) ∧ Below w.heap.size w w' := by
  have H := Lib.hid (place_off g w h2)
  clear h2
  go_enter Try.func25, Try.ntmps25
  go_wp2_with (go_at_call 43; refine H.out.mono ?_; rintro x w1 ⟨rfl, hb⟩; have HB := Lib.hid hb; clear hb)
  go_ret2
  exact ⟨rfl, HB.out⟩
set_option maxHeartbeats 2000000 in
theorem list_1 {du : Int} (w : World) (hs : Hid (S1 W g room off armed ops f fcap r A cap l du w)) :
    Calls Try.prog 27 #[.pointer (some ⟨g, 0, none⟩)] w fun e w' => e = .returned (.slice (some ⟨w.heap.size, 0, none⟩) 1 1) ∧ w'.cell? ⟨w.heap.size, 0, none⟩ = some (.string { data := #[97] }) ∧ w'.frozen? ⟨w.heap.size, 0, none⟩ = false ∧ Below w.heap.size w w' := by
  have hmk : ∀ w : World, (Instr.makeSlice 52 (.int .i64 1) (.int .i64 1)).run Try.prog w = .ok (.slice (some ⟨w.heap.size, 0, none⟩) 1 1) (w.alloc (.cells #[.string { data := #[] }] 9)) := fun _ => by kernel_rfl
  have hb := (Below.refl w.heap.size w).alloc (Nat.le_refl _) (.cells #[.string { data := #[] }] 9)
  have hs1 := hs.out.next hb
  have g0 := hs.out.g1
  have g1 := hs1.g1
  have f0 := hs1.f0
  have f1 := hs1.f1
  have f2 := hs1.f2
  clear hs1 hb
  go_enter Try.func27, Try.ntmps27
  go_wp2
  refine wp_loop_rounds 2 ?_
  rw [rounds_succ]
  go_wp2
  rw [rounds_succ]
  go_wp2
  go_ret
  exact ⟨rfl, by simp [World.cell?_alloc_new], by simp, ((Below.refl w.heap.size w).alloc (Nat.le_refl _) _).alloc (by simp) _⟩
end
end Go.Proofs.Ytafdhgofdocjhaa
