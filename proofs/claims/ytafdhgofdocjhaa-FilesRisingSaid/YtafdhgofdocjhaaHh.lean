/-
  Layer files: Restart of a store of many files.
-/
import Derived.Test.YtafdhgofdocjhaaHg
set_option linter.unusedSimpArgs false
set_option linter.unusedVariables false
namespace Go.Proofs.Ytafdhgofdocjhaa
open Go.RowKit Go.WideShapes

def stayF (keep : List Int) (i : Nat) (x : Fil) : Nat := stay x.l.length x.du (keep.getD i 0)
def fallF (keep : List Int) (i : Nat) (x : Fil) : Fil := { x with l := x.l.take (stayF keep i x), du := stayF keep i x }
/-- The files behind k rounds. -/
def fallen (keep : List Int) (k : Nat) (xs : List Fil) : List Fil := xs.mapIdx fun i x => if i < k then fallF keep i x else x
theorem fallen_len (keep : List Int) (k : Nat) (xs : List Fil) : (fallen keep k xs).length = xs.length := by simp [fallen]
theorem fallen_zero (keep : List Int) (xs : List Fil) : fallen keep 0 xs = xs := by
  apply List.ext_getElem?; intro i; simp [fallen]
theorem fallen_get (keep : List Int) (k : Nat) (xs : List Fil) (x : Fil) (h : xs[k]? = some x) : (fallen keep k xs)[k]? = some x := by simp [fallen, h]
theorem fallen_set (keep : List Int) (k : Nat) (xs : List Fil) (x : Fil) (h : xs[k]? = some x) : (fallen keep k xs).set k (fallF keep k x) = fallen keep (k + 1) xs := by
  apply List.ext_getElem?
  intro i
  have hk := (List.getElem?_eq_some_iff.1 h).1
  rw [List.getElem?_set, fallen_len]
  by_cases e : k = i
  · subst e; simp [fallen, hk, (List.getElem?_eq_some_iff.1 h).2]
  · rw [if_neg e]; simp only [fallen, List.getElem?_mapIdx]
    rcases xs[i]? with _ | y
    · rfl
    · simp only [Option.map_some]
      by_cases h1 : i < k
      · rw [if_pos h1, if_pos (by omega)]
      · rw [if_neg h1, if_neg (by omega)]
/-- A row of ints. -/
def IntsAt (w : World) (p : Option Addr) (l : List Int) : Prop := ∀ (k : Nat) (v : Int), l[k]? = some v → (-1000000000000 ≤ v ∧ v ≤ 1000000000000) ∧ ∃ b off, p = some ⟨b, off, none⟩ ∧ b < w.heap.size ∧ w.cell? ⟨b, off + k, none⟩ = some (.int .i64 v)
section
variable {W : World} {g f fcap : Nat} {room armed ops : Int} {off : Bool} {r : List Value} {xs : List Fil} {w w' : World}
set_option maxHeartbeats 4000000 in
theorem restart_N (p : Option Addr) (keep : List Int) (kl kc : Nat) (hkl : Hid (kl = keep.length)) (n : Nat) (hnx : Hid (n = xs.length)) (hn : n ≤ 1000) (hd : Hid (∀ (k : Nat) (x : Fil), xs[k]? = some x → x.du ≤ x.l.length ∧ x.l.length ≤ 100000000)) (w : World) (hs : Hid (SN W g room off armed ops f fcap r xs w))
    (hq : Hid (∀ (ys : List Fil) w', SN W g room false 0 ops f fcap r ys w' → IntsAt w' p keep)) :
    Calls Try.prog 23 #[.pointer (some ⟨g, 0, none⟩), .slice p kl kc] w fun e w' => e = .returned (.int .i64 0) ∧ SN W g room false 0 ops f fcap r (fallen keep n xs) w' := by
  have g2 := hs.out.g2
  have g3 := hs.out.g3
  have k2 := hs.out.gf 2
  have k3 := hs.out.gf 3
  have HQ := Lib.hid ((hs.out.putOff false).putArmed 0)
  go_enter Try.func23, Try.ntmps23
  go_upto_region 4 with fail
  generalize World.setCell _ _ _ = wa at *
  clear g2 g3 k2 k3 hs
  have c1 := HQ.out.g1
  rw [← hnx.out] at c1
  go_wp2
  go_loopw [20] (fun i wr => ∃ k : Nat, k ≤ n ∧ i = .int .i64 k ∧ SN W g room false 0 ops f fcap r (fallen keep k xs) wr) (fun i _ => n - (intOf i).toNat)
  case atStart => exact ⟨0, Nat.zero_le _, rfl, by rw [fallen_zero]; exact HQ.out⟩
  case round =>
    obtain ⟨k, hk, rfl, hst⟩ := hrel
    have HS := Lib.hid hst
    clear hst c1 HQ
    by_cases hkn : k < n
    · have hkx : k < xs.length := by have := hnx.out; omega
      obtain ⟨x, hxe⟩ : ∃ x, xs[k]? = some x := ⟨xs[k], List.getElem?_eq_getElem hkx⟩
      have HX := Lib.hid hxe
      obtain ⟨hd1, hd2⟩ := hd.out k x hxe
      have HG := Lib.hid (fallen_get keep k xs x hxe)
      have HF := Lib.hid (fallen_set keep k xs x hxe)
      have c1 := HS.out.g1
      rw [fallen_len, ← hnx.out] at c1
      clear hxe
      by_cases hkk : k < kl
      · have hkl' : k < keep.length := by have := hkl.out; omega
        obtain ⟨v, hv⟩ : ∃ v, keep[k]? = some v := ⟨keep[k], List.getElem?_eq_getElem hkl'⟩
        obtain ⟨hvb, b, o, rfl, hb, hc⟩ := hq.out _ _ HS.out k v hv
        have HV : Hid (stayF keep k x = stay x.l.length x.du v) := Lib.hid (by unfold stayF; rw [List.getD_eq_getElem?_getD, hv]; rfl)
        clear hv
        go_wp2_with (go_at_call 47; refine (fall_N k x HG v hvb (stayF keep k x) HV hd1 hd2 _ HS).mono ?_; rintro z w1 ⟨rfl, h1⟩; have HS1 := Lib.hid h1; clear h1)
        go_roundw
        case rel => exact ⟨k + 1, by omega, by go_num, by rw [← HF.out]; exact HS1.out⟩
        case measure => simp [intOf]; omega
      · have HV : Hid (stayF keep k x = stay x.l.length x.du 0) := Lib.hid (by unfold stayF; rw [List.getD_eq_getElem?_getD, List.getElem?_eq_none (by have := hkl.out; omega)]; rfl)
        go_wp2_with (go_at_call 47; refine (fall_N k x HG 0 (by decide) (stayF keep k x) HV hd1 hd2 _ HS).mono ?_; rintro z w1 ⟨rfl, h1⟩; have HS1 := Lib.hid h1; clear h1)
        go_roundw
        case rel => exact ⟨k + 1, by omega, by go_num, by rw [← HF.out]; exact HS1.out⟩
        case measure => simp [intOf]; omega
    · have hkn' : k = n := by omega
      subst hkn'
      go_wp2
      go_ret
      exact ⟨rfl, HS.out⟩
end
end Go.Proofs.Ytafdhgofdocjhaa
