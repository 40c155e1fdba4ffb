/-
  Layer mark: the law's near; MarkNone and MarkSees, walked.
-/
import Derived.Test.YtgoibcolehcgcaaKf
set_option linter.unusedSimpArgs false
set_option linter.unusedVariables false
set_option maxRecDepth 8000
namespace Go.Proofs.Ytgoibcolehcgcaa
open Go.RowKit Go.WideShapes Mk
theorem uSn : Try.prog.underlying 37 = some (.struct (Try.prog.fieldsOf 37)) := by kernel_rfl
theorem iSn (q t : Int) : (Try.prog.info? 37).map (·.size) = some ([.int .i64 q, .int .i64 t] : List Value).length := by kernel_rfl
theorem snAt_new (w : World) (q t : Int) : SnAt (w.alloc (.cells #[.int .i64 q, .int .i64 t] 37)) (some ⟨w.heap.size, 0, none⟩) [(q, t)] := fun j v hv => by
  refine ⟨_, _, rfl, by simp, ?_⟩
  rw [cell_of_row _ _ _ _ _ _ (heap_alloc_new' w _), Nat.zero_add]
  simpa [sns, snC] using hv
theorem snAt_new2 (w : World) (o : Obj) (q t : Int) : SnAt ((w.alloc o).alloc (.cells #[.int .i64 q, .int .i64 t] 37)) (some ⟨w.heap.size + 1, 0, none⟩) [(q, t)] := by
  have h := snAt_new (w.alloc o) q t
  rwa [show (w.alloc o).heap.size = w.heap.size + 1 by simp] at h
theorem rangeN {w : World} {g off : Nat} {q t : Int} (c1 : w.cell? ⟨g, off, none⟩ = some (.int .i64 q)) (c2 : w.cell? ⟨g, off + 1, none⟩ = some (.int .i64 t)) : w.rangeAt g off [.int .i64 q, .int .i64 t] := fun j v hv => by
  rcases j with _ | _ | j
  · injection hv with hv; subst hv; exact c1
  · injection hv with hv; subst hv; exact c2
  · cases hv
def NearEnds (w : World) (n : Nat) (e : Ending) (w' : World) : Prop := ∃ A cap s, e = .returned (.slice A n cap) ∧ OwnN w' w.heap.size A n cap s ∧ Below w.heap.size w w'
set_option maxHeartbeats 2000000 in
theorem near_any (a : Option Addr) (ll c : Nat) (l : List Sn) (hll : Hid (ll = l.length)) (h60 : ll ≤ 60) (w : World) (H : Hid (SnAt w a l)) :
    Calls Try.prog 9 #[.slice a ll c] w (NearEnds w ll) := by
  go_enter Try.func9, Try.ntmps9
  go_wp2
  go_loopw [3, 4] (fun u i wr => ∃ k : Nat, k ≤ ll ∧ i = .int .i64 (k : Int) ∧ ∃ A cap s, u = .slice A k cap ∧ Hid (OwnN wr w.heap.size A k cap s) ∧ Hid (Below w.heap.size w wr)) (fun _ i _ => ll - (intOf i).toNat)
  case atStart => exact ⟨0, by omega, rfl, none, 0, [], rfl, Lib.hid (OwnN.nil _ _), Lib.hid (Below.refl _ _)⟩
  case round =>
    obtain ⟨k, hk, rfl, A, cap, s, rfl, HO, HB⟩ := hrel
    by_cases hlt : k < ll
    · obtain ⟨x, hx⟩ : ∃ x, l[k]? = some x := ⟨l[k]'(by have := hll.out; omega), List.getElem?_eq_getElem _⟩
      obtain ⟨g, off, rfl, hg, c1, c2⟩ := (H.out.keep HB.out).cells k x hx
      obtain ⟨q, t⟩ := x
      have HG := Lib.hid (rangeN c1 c2)
      clear c1 c2 hx hg
      have LDA : ∀ (q' : Int), Hid (OwnN (wr.alloc (.cells #[.int .i64 q', .int .i64 t] 37)) w.heap.size A k cap s ∧ Below w.heap.size w (wr.alloc (.cells #[.int .i64 q', .int .i64 t] 37))) := fun q' => Lib.hid ⟨HO.out.keep ((Below.refl _ _).alloc (Nat.le_refl _) _), HB.out.alloc HB.out.size _⟩
      by_cases h5 : k % 5 = 4
      · have h6 : ((k : Int) % 5 != 4) = false := by rw [bne_eq_false_iff_eq]; omega
        go_wp2_with (first
          | (refine wpList_load_mid rfl 37 (.tmp 14) rfl g (off + k * 2) rfl [.int .i64 q, .int .i64 t] _ HG.out uSn rfl (iSn q t) ?_)
          | (at_builtin; go_loud (refine wpList_append_sn rfl (.tmp 24) (.tmp 26) rfl w.heap.size A k cap s rfl ((LDA _).out.1.keep ((Below.refl _ _).alloc (Nat.le_refl _) _)) _ 1 1 [(_, t)] rfl rfl (snAt_new2 wr _ _ t) (fun h => by cases h) (k + 1) rfl (by omega) (Nat.le_trans (LDA 0).out.2.size (by simp)) ?_; intro A3 c3 w3 ho3 hc3 hm3 hn3 hb3; have HO3 := Lib.hid ho3; have HB3 := Lib.hid (((LDA _).out.2.alloc (Nat.le_trans HB.out.size (by simp)) _).trans hb3); clear ho3 hb3)))
        go_roundw
        case rel => exact ⟨k + 1, by omega, by go_num, A3, c3, _, rfl, HO3, HB3⟩
        case measure => simp [intOf]; omega
      · have h6 : ((k : Int) % 5 != 4) = true := by rw [bne_iff_ne]; omega
        go_wp2_with (first
          | (refine wpList_load_mid rfl 37 (.tmp 14) rfl g (off + k * 2) rfl [.int .i64 q, .int .i64 t] _ HG.out uSn rfl (iSn q t) ?_)
          | (at_builtin; go_loud (refine wpList_append_sn rfl (.tmp 24) (.tmp 26) rfl w.heap.size A k cap s rfl ((LDA _).out.1.keep ((Below.refl _ _).alloc (Nat.le_refl _) _)) _ 1 1 [(_, t)] rfl rfl (snAt_new2 wr _ _ t) (fun h => by cases h) (k + 1) rfl (by omega) (Nat.le_trans (LDA 0).out.2.size (by simp)) ?_; intro A3 c3 w3 ho3 hc3 hm3 hn3 hb3; have HO3 := Lib.hid ho3; have HB3 := Lib.hid (((LDA _).out.2.alloc (Nat.le_trans HB.out.size (by simp)) _).trans hb3); clear ho3 hb3)))
        go_roundw
        case rel => exact ⟨k + 1, by omega, by go_num, A3, c3, _, rfl, HO3, HB3⟩
        case measure => simp [intOf]; omega
    · obtain rfl : k = ll := by omega
      go_wp2
      go_ret
      exact ⟨A, cap, s, rfl, HO.out, HB.out⟩
end Go.Proofs.Ytgoibcolehcgcaa
