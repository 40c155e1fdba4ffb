/-
  Layer sorter: the laws' awake: the document's example.
-/
import Derived.Test.YtjldamkmdkaiiaaGreatDoorEnK
import Derived.Test.YtjldamkmdkaiiaaGreatDoorEfK
import Derived.Test.YtjldamkmdkaiiaaGreatDoorO4K
import Derived.Test.YtjldamkmdkaiiaaGreatDoorO2K
set_option linter.unusedSimpArgs false
set_option linter.unusedVariables false
namespace Go.Proofs.YtjldamkmdkaiiaaGreatDoor
open Go.RowKit Go.Sort
abbrev ltE : Ev → Ev → Bool := ltOf evCmp
def bsort (bs : Nat) : Nat → List Ev → List Ev
 | 0, _ => []
 | k + 1, s => isort ltE (s.take bs) ++ bsort bs k (s.drop bs)
def bsrt (bs : Nat) (s : List Ev) : List Ev := bsort bs (s.length + 1) s
theorem isort_nil : isort ltE [] = [] := rfl
theorem bsort_nil (bs k : Nat) : bsort bs k [] = [] := by
 induction k with
 | zero => rfl
 | succ k ih => rw [bsort, List.take_nil, List.drop_nil, isort_nil, ih]; rfl
theorem bsort_fuel (bs : Nat) (h : 0 < bs) : ∀ (k : Nat) (s : List Ev), s.length < k → bsort bs k s = bsrt bs s := by
 intro k
 induction k using Nat.strongRecOn with
 | _ k ih =>
  intro s hs
  rcases k with _ | k
  ·omega
  ·unfold bsrt
   rw [bsort, bsort]
   congr 1
   rcases s with _ | ⟨x, r⟩
   ·rw [List.drop_nil, bsort_nil, bsort_nil]
   ·have hl : ((x :: r).drop bs).length < k := by rw [List.length_drop]; simp at hs ⊢; omega
    rw [ih k (by omega) _ hl]
    by_cases hk : (x :: r).length < k + 1
    ·rw [ih (x :: r).length (by omega) _ (by rw [List.length_drop]; simp; omega)]
    ·omega
theorem bsrt_step (bs : Nat) (h : 0 < bs) (s : List Ev) : bsrt bs s = isort ltE (s.take bs) ++ bsrt bs (s.drop bs) := by
 conv => lhs; unfold bsrt
 rw [bsort]
 rcases s with _ | ⟨x, r⟩
 ·rw [List.drop_nil, bsort_nil]; unfold bsrt; rw [bsort_nil]
 ·rw [bsort_fuel bs h _ _ (by rw [List.length_drop]; simp; omega)]
theorem bsrt_small (bs : Nat) (h : 0 < bs) (s : List Ev) (hs : s.length ≤ bs) : bsrt bs s = isort ltE s := by
 rw [bsrt_step bs h, List.take_of_length_le hs, List.drop_of_length_le hs]
 unfold bsrt; rw [bsort_nil, List.append_nil]
theorem bsrt_len (bs : Nat) (h : 0 < bs) : ∀ (k : Nat) (s : List Ev), s.length ≤ k → (bsrt bs s).length = s.length := by
 intro k
 induction k with
 | zero => intro s hs; obtain rfl : s = [] := List.eq_nil_of_length_eq_zero (by omega); unfold bsrt; rw [bsort_nil]
 | succ k ih =>
  intro s hs
  rw [bsrt_step bs h, List.length_append, isort_len, ih (s.drop bs) (by rw [List.length_drop]; omega), List.length_take, List.length_drop]; omega
structure First (l lk : List Ev) (a : Nat) : Prop where
 ex : ∃ X, lk = X ++ l.drop a ∧ X.length = a ∧ X ++ bsrt 20 (l.drop a) = bsrt 20 l
 le : a ≤ l.length
theorem First.step {l lk : List Ev} {a : Nat} (h : First l lk a) (hb : a + 20 ≤ l.length) : First l (srt ltE lk a (a + 20)) (a + 20) := by
 obtain ⟨X, e1, e2, e3⟩ := h.ex
 subst e1
 have hl : (l.drop a).length = l.length - a := List.length_drop ..
 have es : X ++ l.drop a = X ++ ((l.drop a).take 20 ++ l.drop (a + 20)) := by rw [show l.drop (a + 20) = (l.drop a).drop 20 by rw [List.drop_drop], List.take_append_drop]
 refine ⟨⟨X ++ isort ltE ((l.drop a).take 20), ?_, ?_, ?_⟩, hb⟩
 ·unfold srt
  rw [es, seg_of X _ _ a (a + 20) e2 (by rw [e2, List.length_take]; omega), take_of X _ a e2, drop_of X _ _ (a + 20) (by rw [e2, List.length_take]; omega)]; simp
 ·rw [List.length_append, isort_len, List.length_take, e2]; omega
 ·rw [← e3, bsrt_step 20 (by decide) (l.drop a), List.drop_drop]; simp
theorem First.last {l lk : List Ev} {a n : Nat} (h : First l lk a) (hn : n = l.length) (hb : n < a + 20) : srt ltE lk a n = bsrt 20 l := by
 obtain ⟨X, e1, e2, e3⟩ := h.ex
 subst e1
 have hl : (l.drop a).length = l.length - a := List.length_drop ..
 have hle := h.le
 have es : X ++ l.drop a = X ++ (l.drop a ++ []) := by simp
 unfold srt
 rw [es, seg_of X _ _ a n e2 (by omega), take_of X _ a e2, drop_of X _ _ n (by omega), ← e3, bsrt_small 20 (by decide) (l.drop a) (by omega)]; simp
structure Pass (l lk : List Ev) (bs a : Nat) : Prop where
 ex : ∃ X, lk = X ++ bsrt bs (l.drop a) ∧ X.length = a ∧ X ++ bsrt (2 * bs) (l.drop a) = bsrt (2 * bs) l
 le : a ≤ l.length
theorem Pass.shape {l lk : List Ev} {bs a : Nat} (h : Pass l lk bs a) (hbs : 0 < bs) : ∃ X, X.length = a ∧ X ++ bsrt (2 * bs) (l.drop a) = bsrt (2 * bs) l ∧ lk = X ++ (isort ltE ((l.drop a).take bs) ++ (isort ltE ((l.drop (a + bs)).take bs) ++ bsrt bs (l.drop (a + 2 * bs)))) := by
 obtain ⟨X, e1, e2, e3⟩ := h.ex
 refine ⟨X, e2, e3, ?_⟩
 rw [e1, bsrt_step bs hbs (l.drop a), List.drop_drop, bsrt_step bs hbs (l.drop (a + bs)), List.drop_drop, show a + bs + bs = a + 2 * bs by omega]
theorem Pass.segs {l lk : List Ev} {bs a b : Nat} (h : Pass l lk bs a) (hbs : 0 < bs) (hm : a + bs ≤ l.length) (hb : b = (if a + 2 * bs ≤ l.length then a + 2 * bs else l.length)) :
  seg lk a (a + bs) = isort ltE ((l.drop a).take bs) ∧ seg lk (a + bs) b = isort ltE ((l.drop (a + bs)).take bs) ∧ lk.length = l.length := by
 obtain ⟨X, e2, e3, e4⟩ := h.shape hbs
 have g1 : (isort ltE ((l.drop a).take bs)).length = bs := by rw [isort_len, List.length_take, List.length_drop]; omega
 have g2 : (isort ltE ((l.drop (a + bs)).take bs)).length = b - (a + bs) := by rw [isort_len, List.length_take, List.length_drop]; split at hb <;> omega
 have hbb : a + bs ≤ b := by split at hb <;> omega
 refine ⟨?_, ?_, ?_⟩
 ·rw [e4]; exact seg_of _ _ _ _ _ e2 (by omega)
 ·rw [e4, ← List.append_assoc]; exact seg_of _ _ _ _ _ (by rw [List.length_append]; omega) (by rw [List.length_append]; omega)
 ·obtain ⟨X', f1, f2, f3⟩ := h.ex
  rw [f1, List.length_append, bsrt_len bs hbs _ _ (Nat.le_refl _), List.length_drop]; have := h.le; omega
theorem Pass.step {l lk : List Ev} {bs a b : Nat} (h : Pass l lk bs a) (hbs : 0 < bs) (hm : a + bs ≤ l.length) (hb : b = (if a + 2 * bs ≤ l.length then a + 2 * bs else l.length)) : Pass l (mrg ltE lk a (a + bs) b) bs b := by
 obtain ⟨s1, s2, s3⟩ := h.segs hbs hm hb
 obtain ⟨X, e2, e3, e4⟩ := h.shape hbs
 have g1 : (isort ltE ((l.drop a).take bs)).length = bs := by rw [isort_len, List.length_take, List.length_drop]; omega
 have g2 : (isort ltE ((l.drop (a + bs)).take bs)).length = b - (a + bs) := by rw [isort_len, List.length_take, List.length_drop]; split at hb <;> omega
 have hbb : a + bs ≤ b ∧ b ≤ l.length := by split at hb <;> omega
 have hd : l.drop b = l.drop (a + 2 * bs) := by
  split at hb
  ·rw [hb]
  ·rw [List.drop_of_length_le (by omega), List.drop_of_length_le (by omega)]
 have hj : smerge ltE (isort ltE ((l.drop a).take bs)) (isort ltE ((l.drop (a + bs)).take bs)) = isort ltE ((l.drop a).take (2 * bs)) := by
  rw [← isort_append wkE, show 2 * bs = bs + bs by omega, List.take_add, List.drop_drop]
 refine ⟨⟨X ++ isort ltE ((l.drop a).take (2 * bs)), ?_, ?_, ?_⟩, hbb.2⟩
 ·have d1 : lk.take a = X := by rw [e4]; exact take_of _ _ _ e2
  have d2 : lk.drop b = bsrt bs (l.drop (a + 2 * bs)) := by
   rw [e4, ← List.append_assoc, ← List.append_assoc, show (X ++ isort ltE ((l.drop a).take bs) ++ isort ltE ((l.drop (a + bs)).take bs) ++ bsrt bs (l.drop (a + 2 * bs))).drop b = _ from List.drop_left' (by simp only [List.length_append]; omega)]
  unfold mrg
  rw [s1, s2, hj, d1, d2, hd]; simp
 ·rw [List.length_append, isort_len, List.length_take, List.length_drop, e2]; split at hb <;> omega
 ·rw [← e3, bsrt_step (2 * bs) (by omega) (l.drop a), List.drop_drop, hd]; simp
theorem Pass.done {l lk : List Ev} {bs : Nat} (h : Pass l lk bs l.length) (hbs : 0 < bs) : lk = bsrt (2 * bs) l := by
 obtain ⟨X, e1, e2, e3⟩ := h.ex
 rw [List.drop_length] at e1 e3
 rw [← e3, e1]; unfold bsrt; rw [bsort_nil, bsort_nil]
theorem Pass.small {l lk : List Ev} {bs a : Nat} (h : Pass l lk bs a) (hbs : 0 < bs) (hs : l.length ≤ a + bs) : lk = bsrt (2 * bs) l := by
 obtain ⟨X, e1, e2, e3⟩ := h.ex
 rw [← e3, e1, bsrt_small bs hbs _ (by rw [List.length_drop]; omega), bsrt_small (2 * bs) (by omega) _ (by rw [List.length_drop]; omega)]
theorem pass_start (l : List Ev) (bs : Nat) : Pass l (bsrt bs l) bs 0 := ⟨⟨[], by simp, rfl, by simp⟩, Nat.zero_le _⟩
theorem first_start (l : List Ev) : First l l 0 := ⟨⟨[], by simp, rfl, by simp⟩, Nat.zero_le _⟩
theorem insE_any (blk cap a b N : Nat) (l : List Ev) (w0 w : World) (HR : Hid (RowE w0 blk N)) (hN : l.length = N) (HS : Hid (SWE w0 blk l w)) (hab : a ≤ b) (hb : b ≤ N) (hsz : N ≤ 1000000) :
  Calls Tryz.prog 104 #[.slice (some ⟨blk, 0, none⟩) N cap, .int .i64 a, .int .i64 b, .func (.func 71) #[] #[]] w fun e w' => e = .returned (.tuple #[]) ∧ SWE w0 blk (srt ltE l a b) w' := by
 obtain ⟨l0, e0, R⟩ := HR.out
 have hH := HS.out.holds R.hblk R.hH (by simp; omega)
 have h := ins_any blk cap a b l.toArray w hH (HS.out.lt R.hblk) hab (by simpa [hN] using hb) (by simp; omega)
 rw [show l.toArray.size = N by simpa using hN] at h
 refine h.mono ?_
 rintro e w' ⟨rfl, n, os, rfl⟩
 refine ⟨rfl, ?_⟩
 have h2 := HS.out.on R.hblk n (insertionSort (ltOf evCmp) l.toArray a b) os (by rw [ins_srt l a b hab (by omega)]; simp; exact srt_len l a b hab (by omega))
 rw [ins_srt l a b hab (by omega)] at h2 ⊢
 exact h2
def RF (w0 : World) (blk N : Nat) (l : List Ev) (u v : Value) (wr : World) : Prop := ∃ a : Nat, ∃ lk, u = .int .i64 a ∧ v = .int .i64 ((a : Int) + 20) ∧ First l lk a ∧ SWE w0 blk lk wr
def RO (w0 : World) (blk N : Nat) (l : List Ev) (t : Value) (wr : World) : Prop := ∃ bs : Nat, t = .int .i64 bs ∧ 20 ≤ bs ∧ bs ≤ 2 * N + 20 ∧ SWE w0 blk (bsrt bs l) wr
def RP (w0 : World) (blk N bs : Nat) (l : List Ev) (u v : Value) (wr : World) : Prop := ∃ a : Nat, ∃ lk, u = .int .i64 a ∧ v = .int .i64 ((a : Int) + 2 * (bs : Int)) ∧ Pass l lk bs a ∧ SWE w0 blk lk wr
set_option maxHeartbeats 8000000 in
theorem stable_any (blk cap N : Nat) (l : List Ev) (w0 w : World) (HR : Hid (RowE w0 blk N)) (hLN0 : l.length = N) (HS0 : Hid (SWE w0 blk l w)) (hsz : N ≤ 1000000) :
  Calls Tryz.prog 83 #[.slice (some ⟨blk, 0, none⟩) N cap, .int .i64 N, .func (.func 71) #[] #[]] w fun e w' => e = .returned (.tuple #[]) ∧ SWE w0 blk (isort ltE l) w' := by
 have HLN := Lib.hid hLN0
 clear hLN0
 have HSYM := Lib.hid (fun (a m b : Nat) (l' : List Ev) (w' : World) => sym_any blk cap N w0 HR hsz N a m b l' w')
 go_enter Tryz.func83, Tryz.ntmps83
 go_wp2
 go_loopw [7, 8] (fun u v wr => RF w0 blk N l u v wr) (fun u _ _ => N - (intOf u).toNat)
 case atStart => exact ⟨0, l, rfl, rfl, first_start l, HS0.out⟩
 case round =>
  obtain ⟨a, lk, rfl, rfl, hf, hst⟩ := hrel
  have HF := Lib.hid hf
  have HS := Lib.hid hst
  have hle := hf.le
  clear hf hst HS0
  rw [HLN.out] at hle
  by_cases hlt : a + 20 ≤ N
  ·have hz : (a : Int) + 20 ≤ (N : Int) := by omega
   have hc : ((a : Int) + 20) = ((a + 20 : Nat) : Int) := by omega
   have HC := Lib.hid hc
   clear hc
   have HLK : Hid (lk.length = N) := Lib.hid (by obtain ⟨X, e1, e2, e3⟩ := HF.out.ex; rw [e1, List.length_append, List.length_drop, e2, HLN.out]; omega)
   go_wp2_with (go_at_call 104; rw [HC.out]; refine (insE_any blk cap a (a + 20) N lk w0 _ HR HLK.out HS (by omega) hlt hsz).mono ?_; rintro e w2 ⟨rfl, hs⟩; have HS2 := Lib.hid hs; clear hs)
   go_roundw
   case rel => exact ⟨a + 20, _, by go_num, by go_num, HF.out.step (by rw [HLN.out]; omega), HS2.out⟩
   case measure => simp [intOf]; omega
  ·have hz : ¬ ((a : Int) + 20 ≤ (N : Int)) := by omega
   have HLK : Hid (lk.length = N) := Lib.hid (by obtain ⟨X, e1, e2, e3⟩ := HF.out.ex; rw [e1, List.length_append, List.length_drop, e2, HLN.out]; omega)
   have HLAST := Lib.hid (HF.out.last HLN.out.symm (by omega))
   go_wp2_with (go_at_call 104; refine (insE_any blk cap a N N lk w0 _ HR HLK.out HS (by omega) (Nat.le_refl _) hsz).mono ?_; rintro e w2 ⟨rfl, hs⟩; rw [HLAST.out] at hs; have HS2 := Lib.hid hs; clear hs)
   clear hz
   go_loopw [6] (fun t wr => RO w0 blk N l t wr) (fun t _ => N - (intOf t).toNat)
   case atStart => exact ⟨20, rfl, by omega, by omega, HS2.out⟩
   case round =>
    obtain ⟨bs, rfl, h20, hbN, hst⟩ := hrel
    have HS3 := Lib.hid hst
    clear hst HS2 HS
    by_cases hbs : bs < N
    ·go_wp2
     go_loopw [7, 8] (fun u v wr => RP w0 blk N bs l u v wr) (fun u _ _ => N - (intOf u).toNat)
     case atStart => exact ⟨0, _, rfl, by go_num, pass_start l bs, HS3.out⟩
     case round =>
      obtain ⟨a2, lk2, rfl, rfl, hp, hst⟩ := hrel
      have HP := Lib.hid hp
      have HS4 := Lib.hid hst
      have hle2 := hp.le
      clear hp hst HS3
      rw [HLN.out] at hle2
      by_cases hb2 : a2 + 2 * bs ≤ N
      ·have hz : (a2 : Int) + 2 * (bs : Int) ≤ (N : Int) := by omega
       have HC1 : Hid ((a2 : Int) + (bs : Int) = ((a2 + bs : Nat) : Int)) := Lib.hid (by omega)
       have HC2 : Hid ((a2 : Int) + 2 * (bs : Int) = ((a2 + 2 * bs : Nat) : Int)) := Lib.hid (by omega)
       have HB : Hid (a2 + 2 * bs = (if a2 + 2 * bs ≤ l.length then a2 + 2 * bs else l.length)) := Lib.hid (by rw [if_pos (by rw [HLN.out]; exact hb2)])
       have HSG := Lib.hid (HP.out.segs (by omega) (by rw [HLN.out]; omega) HB.out)
       have HPS := Lib.hid (HP.out.step (by omega) (by rw [HLN.out]; omega) HB.out)
       go_wp2_with (go_at_call 105; rw [HC1.out, HC2.out]; refine ((HSYM.out a2 (a2 + bs) (a2 + 2 * bs) lk2 _ (by omega) (by omega) (by omega) hb2 (by rw [HSG.out.2.2]; exact HLN.out) (by rw [HSG.out.1]; exact isort_ordered wkE _) (by rw [HSG.out.2.1]; exact isort_ordered wkE _) HS4).at).mono ?_; rintro e w5 ⟨rfl, hs⟩; have HS5 := Lib.hid hs; clear hs)
       go_roundw
       case rel => exact ⟨a2 + 2 * bs, _, by go_num, by go_num, HPS.out, HS5.out⟩
       case measure => simp [intOf]; omega
      ·have hz : ¬ ((a2 : Int) + 2 * (bs : Int) ≤ (N : Int)) := by omega
       by_cases hm : a2 + bs < N
       ·have hz2 : (a2 : Int) + (bs : Int) < (N : Int) := by omega
        have HC1 : Hid ((a2 : Int) + (bs : Int) = ((a2 + bs : Nat) : Int)) := Lib.hid (by omega)
        have HB : Hid (N = (if a2 + 2 * bs ≤ l.length then a2 + 2 * bs else l.length)) := Lib.hid (by rw [if_neg (by rw [HLN.out]; exact hb2), HLN.out])
        have HSG := Lib.hid (HP.out.segs (by omega) (by rw [HLN.out]; omega) HB.out)
        have HPS := Lib.hid (HP.out.step (by omega) (by rw [HLN.out]; omega) HB.out)
        have HDN : Hid (mrg ltE lk2 a2 (a2 + bs) N = bsrt (2 * bs) l) := Lib.hid (by have h := HPS.out; rw [← HLN.out] at h; have h2 := h.done (by omega); rw [HLN.out] at h2; exact h2)
        go_wp2_with (go_at_call 105; rw [HC1.out]; refine ((HSYM.out a2 (a2 + bs) N lk2 _ (by omega) (by omega) (by omega) (Nat.le_refl _) (by rw [HSG.out.2.2]; exact HLN.out) (by rw [HSG.out.1]; exact isort_ordered wkE _) (by rw [HSG.out.2.1]; exact isort_ordered wkE _) HS4).at).mono ?_; rintro e w5 ⟨rfl, hs⟩; have HS5 := Lib.hid hs; clear hs)
        go_roundw
        case rel => exact ⟨bs * 2, by go_num, by omega, by omega, by rw [Nat.mul_comm bs 2, ← HDN.out]; exact HS5.out⟩
        case measure => simp [intOf]; omega
       ·have hz2 : ¬ ((a2 : Int) + (bs : Int) < (N : Int)) := by omega
        have HDN := Lib.hid (HP.out.small (by omega) (by rw [HLN.out]; omega))
        go_wp2
        go_roundw
        case rel => exact ⟨bs * 2, by go_num, by omega, by omega, by rw [Nat.mul_comm bs 2, ← HDN.out]; exact HS4.out⟩
        case measure => simp [intOf]; omega
    ·have hz : ¬ ((bs : Int) < (N : Int)) := by omega
     go_wp2
     go_end0
     refine ⟨rfl, ?_⟩
     rw [← bsrt_small bs (by omega) l (by rw [HLN.out]; omega)]; exact HS3.out
set_option maxHeartbeats 1000000 in
theorem sortStable_any (blk cap N : Nat) (l : List Ev) (w : World) (hb : blk < w.heap.size) (hH : HoldsK Ev.cells 5 w blk 0 l.toArray) (hN : N = l.length) (hsz : N ≤ 1000000) :
  Calls Tryz.prog 70 #[.slice (some ⟨blk, 0, none⟩) N cap, .func (.func 71) #[] #[]] w fun e w' => e = .returned (.tuple #[]) ∧ SortW w blk (isort ltE l).toArray w' := by
 have HI := Lib.hid (stable_any blk cap N l w w (Lib.hid ⟨l, hN.symm, ⟨cells_len, cells_one, hH, hb⟩⟩) hN.symm (Lib.hid (SWK.start hH)) hsz)
 clear hH hN hb
 go_enter Tryz.func70, Tryz.ntmps70
 go_wp2_with (go_at_call 83; refine HI.out.mono ?_; rintro e w' ⟨rfl, hs⟩; have HS := Lib.hid hs; clear hs)
 go_end0
 exact ⟨rfl, HS.out⟩
set_option maxHeartbeats 1000000 in
theorem sort_any (g off n c : Nat) (l : List Ev) (hn : Hid (n = l.length)) (h60 : n ≤ 1000) (w : World) (HA : Hid (EvAt w (some ⟨g, off, none⟩) l)) :
  Calls Tryz.prog 58 #[.slice (some ⟨g, off, none⟩) n c] w (RetE w n (isort ltE l)) := by
 have HC := Lib.hid (clone_some g off n c l hn.out h60 w HA)
 go_enter Tryz.func58, Tryz.ntmps58
 go_upto_region 2 with (go_at_call 69; refine HC.out.mono ?_; rintro e w1 ⟨v', rfl, ho, hv, hb⟩; obtain ⟨g1, cap, rfl, hg1, hg2, hl, hH⟩ := holds_own ho hv; have HO := Lib.hid ho; have HB := Lib.hid hb; have HL := Lib.hid hl; have HHH := Lib.hid hH; clear ho hv hb hl hH)
 have HS := Lib.hid (sortStable_any g1 cap n l w1 hg2 HHH.out HL.out (by omega))
 go_wp2_with (go_at_call 70; refine HS.out.mono ?_; rintro e w2 ⟨rfl, hs⟩; have HR := Lib.hid hs; clear hs)
 go_ret
 obtain ⟨q, os, rfl⟩ := HR.out
 exact ⟨g1, cap, rfl, own_put (q := q) HO.out (isort_len l) os, below_sortW HB.out (HB.out.size) hg1⟩
set_option maxHeartbeats 1000000 in
theorem ins_none (w : World) : Calls Tryz.prog 104 #[.slice none 0 0, .int .i64 0, .int .i64 0, .func (.func 71) #[] #[]] w fun e w' => e = .returned (.tuple #[]) ∧ w = w' := by
 go_enter Tryz.func104, Tryz.ntmps104
 go_wp2
 refine wp_loop_rounds 1 ?_
 rw [rounds_succ]
 go_wp2
 go_end0
 exact ⟨rfl, rfl⟩
set_option maxHeartbeats 1000000 in
theorem stable_none (w : World) : Calls Tryz.prog 83 #[.slice none 0 0, .int .i64 0, .func (.func 71) #[] #[]] w fun e w' => e = .returned (.tuple #[]) ∧ w = w' := by
 go_enter Tryz.func83, Tryz.ntmps83
 go_wp2
 refine wp_loop_rounds 1 ?_
 rw [rounds_succ]
 go_wp2_with (go_at_call 104; refine (ins_none _).mono ?_; rintro e w' ⟨rfl, rfl⟩)
 refine wp_loop_rounds 1 ?_
 rw [rounds_succ]
 go_wp2
 go_end0
 exact ⟨rfl, rfl⟩
set_option maxHeartbeats 1000000 in
theorem sortStable_none (w : World) : Calls Tryz.prog 70 #[.slice none 0 0, .func (.func 71) #[] #[]] w fun e w' => e = .returned (.tuple #[]) ∧ w = w' := by
 go_enter Tryz.func70, Tryz.ntmps70
 go_wp2_with (go_at_call 83; refine (stable_none _).mono ?_; rintro e w' ⟨rfl, rfl⟩)
 go_end0
 exact ⟨rfl, rfl⟩
set_option maxHeartbeats 1000000 in
theorem clone_none (w : World) : Calls Tryz.prog 69 #[.slice none 0 0] w fun e w' => e = .returned (.slice none 0 0) ∧ w = w' := by
 have q22 : ∀ (w : World) (a : Option Addr) (n c n' c' : Nat), (binOp .eql 22 (.slice a n c) (.slice none n' c')).run Tryz.prog w = .ok (.bool a.isNone) w := fun w a n c n' c' => Lib.run_eql_slice_nil w _ _ a n c n' c' Tryz.underlying22
 go_enter Tryz.func69, Tryz.ntmps69
 go_wp2
 go_ret
 exact ⟨rfl, rfl⟩
set_option maxHeartbeats 1000000 in
theorem sort_none (w : World) : Calls Tryz.prog 58 #[.slice none 0 0] w fun e w' => e = .returned (.slice none 0 0) ∧ w = w' := by
 go_enter Tryz.func58, Tryz.ntmps58
 go_wp2_with (first
  | (go_at_call 69; refine (clone_none _).mono ?_; rintro e w1 ⟨rfl, rfl⟩)
  | (go_at_call 70; refine (sortStable_none _).mono ?_; rintro e w2 ⟨rfl, rfl⟩))
 go_ret
 exact ⟨rfl, rfl⟩
def SortRet (w : World) (n : Nat) (l : List Ev) (e : Ending) (w' : World) : Prop := ∃ A cap, e = .returned (.slice A n cap) ∧ OwnE w' w.heap.size A n cap l ∧ Below w.heap.size w w'
theorem sortE_any (a : Option Addr) (n c : Nat) (l : List Ev) (hn : Hid (n = l.length)) (hnil : a = none → n = 0 ∧ c = 0) (hsp : ∀ x, a = some x → x.spot = none) (h60 : n ≤ 1000) (w : World) (HA : Hid (EvAt w a l)) :
  Calls Tryz.prog 58 #[.slice a n c] w (SortRet w n (isort ltE l)) := by
 rcases a with _ | ⟨g, off, s⟩
 ·obtain ⟨rfl, rfl⟩ := hnil rfl
  have hl : l = [] := List.eq_nil_of_length_eq_zero hn.out.symm
  subst hl
  refine (sort_none w).mono ?_
  rintro e w' ⟨rfl, rfl⟩
  exact ⟨none, 0, rfl, w.ownsRow_nil _ _ 5, Below.refl _ _⟩
 ·obtain rfl : s = none := hsp _ rfl
  refine (sort_any g off n c l hn h60 w HA).mono ?_
  rintro e w' ⟨g1, cap, rfl, ho, hb⟩
  exact ⟨some ⟨g1, 0, none⟩, cap, rfl, ho, hb⟩
theorem OwnE.at {w : World} {B n cap : Nat} {A : Option Addr} {l : List Ev} (h : OwnE w B A n cap l) : EvAt w A l := fun j v hv => by
 have hjl := (List.getElem?_eq_some_iff.1 hv).1
 rcases h.2 with ⟨e0, e1⟩ | ⟨g, cap', cur, e0, hb, hg, hn, hm, hs, ht⟩
 ·have := h.1; rw [e1, Nat.zero_mul] at this; omega
 ·injection e0 with a1 a2 a3
  subst a1
  refine ⟨g, 0, rfl, (Array.getElem?_eq_some_iff.1 hg).1, ?_⟩
  rw [cell_of_row _ _ _ _ _ _ hg, Nat.zero_add, ← Array.getElem?_toList]
  have := h.1
  rw [← ht, List.getElem?_take] at hv
  rw [if_pos (by omega)] at hv
  exact hv
theorem ev_range {w : World} {A : Option Addr} {l : List Ev} (h : EvAt w A l) (i : Nat) (x : Ev) (hx : l[i]? = some x) : ∃ g off, A = some ⟨g, off, none⟩ ∧ g < w.heap.size ∧ w.rangeAt g (off + i * 5) x.cells := by
 have h0 : (evs l)[i * 5 + 0]? = x.cells[0]? := by rw [evs_get l i 0 (by decide), hx]; rfl
 obtain ⟨g, off, e, hg, -⟩ := h (i * 5 + 0) (.int .u64 (x.off : Int)) (by rw [h0]; rfl)
 refine ⟨g, off, e, hg, fun j v hv => ?_⟩
 have hj : j < 5 := (List.getElem?_eq_some_iff.1 hv).1
 have h1 : (evs l)[i * 5 + j]? = some v := by rw [evs_get l i j hj, hx]; exact hv
 obtain ⟨g', off', e', -, hc⟩ := h _ _ h1
 rw [e] at e'; injection e' with e'; injection e' with b1 b2; subst b1; subst b2
 rw [Nat.add_assoc]; exact hc
theorem below_to2 {W w w' : World} (h : Below W.heap.size W w) (h' : Below w.heap.size w w') : Below W.heap.size W w' := h.trans (h'.mono h.size)
theorem range_keep {w w' : World} {g o : Nat} {x : Ev} (h : w.rangeAt g o x.cells) (hg : g < w.heap.size) (hb : Below w.heap.size w w') : w'.rangeAt g o x.cells := fun j v hv => (hb.cell (p := ⟨g, o + j, none⟩) hg).trans (h j v hv)
set_option maxHeartbeats 1000000 in
theorem sameAll_none (a b : Option Addr) (c1 c2 : Nat) (W : World) :
  Calls Tryz.prog 14 #[.slice a 0 c1, .slice b 0 c2] W fun e w' => e = .returned (.bool true) ∧ Below W.heap.size W w' := by
 go_enter Tryz.func14, Tryz.ntmps14
 go_wp2
 refine wp_loop_rounds 1 ?_
 rw [rounds_succ]
 go_wp2
 go_ret
 exact ⟨rfl, Below.refl _ _⟩
end Go.Proofs.YtjldamkmdkaiiaaGreatDoor
set_option maxRecDepth 8000
namespace Go.Proofs.YtjldamkmdkaiiaaGreatDoor
open Go.RowKit Go.WideShapes Col Go.Sort
theorem hsrt (gl' ol' n' c' : Nat) (l' : List Ev) (w' : World) (hn : n' = l'.length) (h6 : n' ≤ 320) (hE : EvAt w' (some ⟨gl', ol', none⟩) l') :
  Calls Tryz.prog 58 #[.slice (some ⟨gl', ol', none⟩) n' c'] w' fun e w2 => ∃ A cap, e = .returned (.slice A n' cap) ∧ OwnE w2 w'.heap.size A n' cap (isort ltM l') ∧ n' ≤ cap ∧ cap ≤ maxLen ∧ Below w'.heap.size w' w2 := by
 refine (sortE_any (some ⟨gl', ol', none⟩) n' c' l' (Lib.hid hn) (fun h => by cases h) (fun x hx => by injection hx with hx; subst hx; rfl) (by omega) w' (Lib.hid hE)).mono ?_
 rintro e w2 ⟨A, cap, rfl, ho, hb⟩
 obtain ⟨A', cap', e, h1, h2, -⟩ := ro_slice ho
 injection e with e1 e2 e3
 subst e3
 exact ⟨A, cap, rfl, ho, h1, h2, hb⟩
def SortM (base : World) (g : Nat) (room : Int) (nb n N : Nat) (out : List Ev) (P : Nat → Prop) (b : Nat) (o0 : Int) (w : World) (e : Ending) (w' : World) : Prop :=
 ∃ L c J, e = .returned (.tuple #[.slice L n c, .int .i64 (N : Nat), .int .i64 (J : Nat), .int .i64 0]) ∧ P J ∧ n ≤ c ∧ c ≤ maxLen ∧ OwnE w' w.heap.size L n c out ∧ KX b w w' ∧ ∃ zs o, SA ⟨base, w'⟩ g room false 0 o zs w' ∧ zs.length = nb ∧ (0 ≤ o ∧ o ≤ o0 + 1922000)
section
variable {W : Bs} {g : Nat} {room : Int} {parts : Int}
set_option maxHeartbeats 4000000 in
theorem sort_none0 (b Zh Z : Nat) (hZ : 1 ≤ Zh ∧ Zh ≤ 4096) (w : World) (HR : RunsAt9 w b g parts none 0 0 0) :
  Calls Tryz.prog 30 #[.pointer (some ⟨b, 0, none⟩), .slice none 0 0, .agg #[.int .i64 (Zh : Int), .int .i64 (Z : Int)]] w fun e w' => e = .returned (.tuple #[.slice none 0 0, .int .i64 0, .int .i64 0, .int .i64 0]) ∧ Below w.heap.size w w' := by
 have hb1 := (Below.refl w.heap.size w).alloc (Nat.le_refl _) (.cells #[.int .i64 (Zh : Int), .int .i64 (Z : Int)] 26)
 have HB1 := Lib.hid hb1
 have HBG := Lib.hid (begin_none b Zh hZ (w.alloc (.cells #[.int .i64 (Zh : Int), .int .i64 (Z : Int)] 26)))
 have HR' := Lib.hid HR
 clear hb1 HR
 go_enter Tryz.func30, Tryz.ntmps30
 go_wp2_with (go_at_call 45; (with_reducible refine HBG.out.mono ?_); rintro e w2 ⟨rfl, h1⟩; have HB2 := Lib.hid h1; have cb2 : w2.cell? ⟨b, 2, none⟩ = some (.slice none 0 0) := (by rw [cell_of_row _ _ _ _ _ _ ((HR'.out.keep HB1.out).keep h1)]; rfl); clear h1)
 refine wp_loop_rounds 1 ?_
 rw [rounds_succ]
 go_wp2
 exact bodyPost_ret (results_tmp4O rfl _ _ _) rfl ⟨rfl, below_to HB1.out HB2.out⟩
theorem sortM_none (b Zh Z nb : Nat) (hZ : 1 ≤ Zh ∧ Zh ≤ 4096) (w : World) {ys : List Fil} {o : Int} (HR : RunsAt9 w b g parts none 0 0 0) (hs : SA ⟨W.b, w⟩ g room false 0 o ys w) (ho : 0 ≤ o ∧ o < 900000000) (hnb : ys.length = nb) :
  Calls Tryz.prog 30 #[.pointer (some ⟨b, 0, none⟩), .slice none 0 0, .agg #[.int .i64 (Zh : Int), .int .i64 (Z : Int)]] w (SortM W.b g room nb 0 0 [] (fun J => J = 0) b o w) := by
 refine (sort_none0 b Zh Z hZ w HR).mono ?_
 rintro e w' ⟨rfl, hb⟩
 exact ⟨none, 0, 0, rfl, rfl, Nat.le_refl _, Nat.zero_le _, World.ownsRow_nil _ _ _ 5, KX.of_kf (KF.of_below hb), ys, o, (hs.next hb).now, hnb, ho.1, by omega⟩
def PassN (Z N J : Nat) : Prop := itN Z N J = 1 ∧ ∀ j, j < J → 2 ≤ itN Z N j
theorem sortM_some {TT : Nat} {w : World} {gl ol c n b nb bb Zh Z : Nat} {l : List Ev} {N : Nat} {ops0 : Int} {xs : List Fil} (hG : BegG TT dgI W.b w g room b gl nb bb Zh parts l N ops0 w.heap.size) (hZ : 2 ≤ Z ∧ Z ≤ 16) (HRS : RS TT dgI parts nb bb xs [] 0) (hs : SA W g room false 0 ops0 xs w) (HR : RunsAt9 w b g parts none 0 0 0) (HE : EvR w gl ol l) (hn : n = l.length) (hnc : n ≤ c) (hcm : c ≤ maxLen) :
  Calls Tryz.prog 30 #[.pointer (some ⟨b, 0, none⟩), .slice (some ⟨gl, ol, none⟩) n c, .agg #[.int .i64 (Zh : Int), .int .i64 (Z : Int)]] w (SortM W.b g room nb n N ((isort ltM l).map canE) (PassN Z N) b ops0 w) := by
 refine (runSort_any hG hZ HRS hs HR HE n hn hnc hcm (Lib.hid hsrt)).mono ?_
 rintro e w' ⟨J, i, l2, L, c2, hit, rfl, hJ, h1, h2, h3, h4, zs, o, h5, h6, h7, hord⟩
 have hl := SO_bg hG.hn
 rw [← SO_it hZ.1 (bgP Zh l (chZ N)) N J, hit] at hl
 have hl2 : l2.map canE = (isort ltM l).map canE := by
  rw [← hl]; unfold SO evP canL
  simp only [List.map_cons, List.map_nil, List.flatten_cons, List.flatten_nil, List.append_nil]
  exact (isort_idem _ hord).symm
 have hN : (bgP Zh l (chZ N)).length = N := by rw [bgP_len, chZ_len]
 have hll : l2.length = n := by
  have := congrArg List.length hl2
  rw [List.length_map, List.length_map, isort_len] at this; omega
 rw [hll] at h1 h3 ⊢
 rw [hN]
 refine ⟨L, c2, J, rfl, ⟨?_, fun j hj => ?_⟩, h1, h2, by rw [← hl2]; exact h3, h4, zs, o, h5, h6, h7.1, by have h8 := hG.Nle; omega⟩
 ·rw [← hN, ← itP_len Z (bgP Zh l (chZ N)) N J, hit]; rfl
 ·have := hJ j hj; rwa [itP_len, hN] at this
end
theorem KX.old {b : Nat} {w w4 w5 : World} (h : KF w w4) (h' : KX b w4 w5) (hb : w.heap.size ≤ b) : KF w w5 := ⟨Nat.le_trans h.size h'.size, fun k o hk hn => by
 have hlt := (Array.getElem?_eq_some_iff.1 hk).1
 exact h'.kept k o (h.kept k o hk hn) (by omega) hn⟩
theorem EvR.kf {w w' : World} {gl ol : Nat} {l : List Ev} (h : EvR w gl ol l) (hk : KF w w') : EvR w' gl ol l := by
 obtain ⟨cur, t, fr, h1, h2, h3⟩ := h; exact ⟨cur, t, fr, hk.row h1 h2, h2, h3⟩
def SortR (base : World) (g : Nat) (room : Int) (nb n N : Nat) (out : List Ev) (P : Nat → Prop) (o0 : Int) (w : World) (e : Ending) (w' : World) : Prop :=
 ∃ L c J, e = .returned (.tuple #[.slice L n c, .int .i64 (N : Nat), .int .i64 (J : Nat), .int .i64 0]) ∧ P J ∧ n ≤ c ∧ c ≤ maxLen ∧ OwnE w' w.heap.size L n c out ∧ KF w w' ∧ ∃ zs o, SA ⟨base, w'⟩ g room false 0 o zs w' ∧ zs.length = nb ∧ (0 ≤ o ∧ o ≤ o0 + 2000000)
section
variable {W : Bs} {g : Nat} {room ops : Int} {xs : List Fil}
set_option maxHeartbeats 8000000 in
theorem sortW_any (A : Option Addr) (n c : Nat) (l : List Ev) (parts : Int) (Zh Z N nb : Nat) (out : List Ev) (P : Nat → Prop) (hn : Hid (n = l.length)) (hn9 : n ≤ 1100) (hp : Hid (1 ≤ parts ∧ parts ≤ 8)) (hpl : planB Zh Z = true) (hall : Hid (∀ x ∈ l, formB x parts = true))
  (hr : Rises xs) (hf : ∀ x ∈ xs, x.name.size ≤ 2000 ∧ formK x.name = true) (hx : xs.length ≤ 1000) (w : World) (hs : SA W g room false 0 ops xs w) (h : 0 ≤ ops ∧ ops < 900000000) (HE : Hid (∀ w', KF w w' → EvAt w' A l))
  (HST : Hid (∀ (w4 : World) (b : Nat) (o4 : Int), w.heap.size ≤ b → b < w4.heap.size → KF w w4 → RunsAt9 w4 b g parts none 0 0 0 → SA ⟨W.b, w4⟩ g room false 0 o4 (xs.filter fun x => !runT x.name) w4 → (0 ≤ o4 ∧ o4 ≤ ops + xs.length) → Calls Tryz.prog 30 #[.pointer (some ⟨b, 0, none⟩), .slice A n c, .agg #[.int .i64 (Zh : Int), .int .i64 (Z : Int)]] w4 (SortM W.b g room nb n N out P b o4 w4))) :
  Calls Tryz.prog 13 #[.pointer (some ⟨g, 0, none⟩), .slice A n c, .int .i64 parts, .agg #[.int .i64 (Zh : Int), .int .i64 (Z : Int)]] w (SortR W.b g room nb n N out P ops w) := by
 have hb1 := (Below.refl w.heap.size w).alloc (Nat.le_refl _) (.cells #[.int .i64 (Zh : Int), .int .i64 (Z : Int)] 26)
 have HB1 := Lib.hid hb1
 have HCL := Lib.hid (clean_any hr hf hx _ (hs.next hb1) h)
 obtain ⟨pb, hpb⟩ : ∃ pb, pb = w.heap.size := ⟨_, rfl⟩
 have HPB := Lib.hid hpb
 have HRP : Hid ((w.alloc (.cells #[.int .i64 (Zh : Int), .int .i64 (Z : Int)] 26)).heap[pb]? = some (.cells #[.int .i64 (Zh : Int), .int .i64 (Z : Int)] 26 (0, 0))) := Lib.hid (by rw [hpb]; exact heap_alloc_new' _ _)
 have HPL := Lib.hid hpl
 have HXL := Lib.hid hx
 clear hb1 hpb hr hf hs hpl
 go_enter Tryz.func13, Tryz.ntmps13
 go_upto_region 4 with (go_at_call 23; (with_reducible refine HCL.out.mono ?_); rintro e w2 ⟨rfl, h1, o4, h2, h3⟩; have HK2 := Lib.hid h1; have HO4 := Lib.hid h2; have HS2 := Lib.hid h3; clear h1 h2 h3)
 have hrp2 : w2.heap[pb]? = some (.cells #[.int .i64 (Zh : Int), .int .i64 (Z : Int)] 26 (0, 0)) := HK2.out.row HRP.out (not_st (by decide) (by decide) (by decide))
 have HRP2 := Lib.hid hrp2
 have cp0 : w2.cell? ⟨pb, 0, none⟩ = some (.int .i64 (Zh : Int)) := by rw [cell_of_row _ _ _ _ _ _ hrp2]; rfl
 have cp1 : w2.cell? ⟨pb, 1, none⟩ = some (.int .i64 (Z : Int)) := by rw [cell_of_row _ _ _ _ _ _ hrp2]; rfl
 have HK : Hid (KF w w2) := Lib.hid ((KF.of_below HB1.out).trans HK2.out)
 have HRF := Lib.hid (refuses_fine A n c l hn hn9 parts (Zh : Int) (Z : Int) hp HPL.out hall w2 (Lib.hid (HE.out w2 HK.out)))
 rw [← HPB.out]
 clear hrp2
 go_upto_region 7 with (go_at_call 29; (with_reducible refine HRF.out.mono ?_); rintro e w3 ⟨rfl, h1⟩; have HB3 := Lib.hid h1; clear h1)
 have hrp3 := row_kept HRP2.out HB3.out
 have HRP3 := Lib.hid hrp3
 obtain ⟨b, hb⟩ : ∃ b, b = w3.heap.size := ⟨_, rfl⟩
 have HB := Lib.hid hb
 have hb4 := (Below.refl w3.heap.size w3).alloc (Nat.le_refl _) (.cells #[.pointer (some ⟨g, 0, none⟩), .int .i64 parts, .slice none 0 0, .int .i64 0] 70)
 have hrp4 := row_kept hrp3 hb4
 have dp0 : (w3.alloc (.cells #[.pointer (some ⟨g, 0, none⟩), .int .i64 parts, .slice none 0 0, .int .i64 0] 70)).cell? ⟨pb, 0, none⟩ = some (.int .i64 (Zh : Int)) := by rw [cell_of_row _ _ _ _ _ _ hrp4]; rfl
 have dp1 : (w3.alloc (.cells #[.pointer (some ⟨g, 0, none⟩), .int .i64 parts, .slice none 0 0, .int .i64 0] 70)).cell? ⟨pb, 1, none⟩ = some (.int .i64 (Z : Int)) := by rw [cell_of_row _ _ _ _ _ _ hrp4]; rfl
 have HK4 : Hid (KF w (w3.alloc (.cells #[.pointer (some ⟨g, 0, none⟩), .int .i64 parts, .slice none 0 0, .int .i64 0] 70))) := Lib.hid ((HK.out.below HB3.out).below hb4)
 have hsz : w.heap.size ≤ w3.heap.size := Nat.le_trans HK.out.size HB3.out.size
 have HSZ := Lib.hid hsz
 have HSM := Lib.hid (HST.out _ w3.heap.size o4 hsz (by simp) HK4.out (heap_alloc_new' _ _) ((HS2.out.next HB3.out).next hb4).now HO4.out)
 clear hb hb4 hrp3 hrp4 hsz
 go_wp2_with (go_at_call 30; (with_reducible refine HSM.out.mono ?_); intro e w5 h5; unfold SortM at h5; obtain ⟨L, c5, J, rfl, h1, h2, h3, h4, h6, zs5, o5, h7⟩ := h5; have HP := Lib.hid h1; have HC5 := Lib.hid (And.intro h2 h3); have HO5 := Lib.hid h4; have HX5 := Lib.hid h6; have HZ5 := Lib.hid h7; clear h1 h2 h3 h4 h6 h7)
 refine bodyPost_ret (results_tmp4O rfl _ _ _) rfl ?_
 have h9 := HSZ.out
 exact ⟨L, c5, J, rfl, HP.out, HC5.out.1, HC5.out.2, HO5.out.less (by simp; omega), KX.old HK4.out HX5.out h9, zs5, o5, HZ5.out.1, HZ5.out.2.1, HZ5.out.2.2.1, by have h8 := HZ5.out.2.2.2; have h7 := HO4.out.2; have h6 := HXL.out; omega⟩
end
def chN (Z n : Nat) : Nat := (n + Z - 1) / Z
theorem chN_iff {Z n : Nat} (hZ : 1 ≤ Z) (k : Nat) : Z * k < n ↔ k < chN Z n := by
 unfold chN
 rw [Nat.lt_div_iff_mul_lt (by omega), Nat.mul_comm]
 omega
theorem runT_rn (k : Nat) : runT (rn dgI k) = true := by
 unfold runT
 rw [rn_list]; simp [Lib.hasPrefix]
theorem RS.start {TT : Nat} {parts : Int} {xs : List Fil} (hr : Rises xs) : RS TT dgI parts (xs.filter fun x => !runT x.name).length (sumN (xs.filter fun x => !runT x.name)) (xs.filter fun x => !runT x.name) [] 0 := by
 refine ⟨hr.sub List.filter_sublist, fun p hp => (nomatch hp), List.Pairwise.nil, fun p hp => (nomatch hp), fun i _ hi x hx => fun e => ?_, rfl, rfl, fun p hp => (nomatch hp), Nat.zero_le _⟩
 have h1 := (List.mem_filter.1 hx).2
 rw [ck_eq e, runT_rn] at h1
 cases h1
def EvS (w : World) (A : Option Addr) (n c : Nat) (l : List Ev) : Prop := (A = none ∧ n = 0 ∧ c = 0 ∧ l = []) ∨ ∃ gl ol, A = some ⟨gl, ol, none⟩ ∧ EvR w gl ol l ∧ n = l.length ∧ 0 < n ∧ n ≤ c ∧ c ≤ maxLen
theorem EvS.kf {w w' : World} {A : Option Addr} {n c : Nat} {l : List Ev} (h : EvS w A n c l) (hk : KF w w') : EvS w' A n c l := by
 rcases h with h | ⟨gl, ol, h1, h2, h3⟩
 ·exact .inl h
 ·exact .inr ⟨gl, ol, h1, h2.kf hk, h3⟩
theorem EvS.at {w : World} {A : Option Addr} {n c : Nat} {l : List Ev} (h : EvS w A n c l) : EvAt w A l ∧ n = l.length ∧ n ≤ c ∧ c ≤ maxLen := by
 rcases h with ⟨rfl, rfl, rfl, rfl⟩ | ⟨gl, ol, rfl, h2, h3, h4, h5⟩
 ·exact ⟨fun j v hv => by simp [evs] at hv, rfl, Nat.le_refl _, Nat.zero_le _⟩
 ·exact ⟨h2.at, h3, h5⟩
theorem EvS.of_own {w : World} {B n c : Nat} {A : Option Addr} {l : List Ev} (h : OwnE w B A n c l) (h0 : 0 < n) : EvS w A n c l := by
 have hcc : n ≤ c ∧ c ≤ maxLen := by
  obtain ⟨A', c', e, h1, h2, -⟩ := ro_slice h
  injection e with e1 e2 e3; subst e3; exact ⟨h1, h2⟩
 have hn : n = l.length := by have := h.1; rw [evs_length] at this; omega
 rcases h.2 with ⟨h1, h2⟩ | ⟨g, cap', cur, h1, hb, hrow, hn', hm, hs, ht⟩
 ·omega
 ·injection h1 with h1 _ _
  refine .inr ⟨g, 0, h1, ⟨cur, _, _, hrow, not_st (by decide) (by decide) (by decide), fun j v hv => ?_⟩, hn, h0, hcc⟩
  have hjl := (List.getElem?_eq_some_iff.1 hv).1
  have hev : (evs l).length = n * 5 := by rw [evs_length]; omega
  have e : (cur.toList.take (n * 5))[j]? = (evs l)[j]? := by rw [ht]
  rw [List.getElem?_take, if_pos (by omega)] at e
  rw [Nat.zero_add, ← Array.getElem?_toList, e]; exact hv
def PassZ (Z n N J : Nat) : Prop := (n = 0 ∧ J = 0) ∨ (0 < n ∧ PassN Z N J)
section
variable {W : Bs} {g : Nat} {room ops : Int} {xs : List Fil}
theorem sortS_any (TT : Nat) (A : Option Addr) (n c : Nat) (l : List Ev) (parts : Int) (Zh Z : Nat) (hp : 1 ≤ parts ∧ parts ≤ 8) (hZh : 1 ≤ Zh ∧ Zh ≤ 4096) (hZ : 2 ≤ Z ∧ Z ≤ 16) (hfin : ∀ x ∈ l, FineE x) (hall : ∀ x ∈ l, formB x parts = true) (hbig : l.length ≤ 320 ∧ chN Zh l.length * min Zh l.length ≤ min TT 320)
  (hr : Rises xs) (hf : ∀ x ∈ xs, x.name.size ≤ 2000 ∧ formK x.name = true) (hx : xs.length ≤ 90) (w : World) (hs : SA W g room false 0 ops xs w) (h : 0 ≤ ops ∧ ops < 500000000) (HE : EvS w A n c l) (HT : TabsAt W.b) (hg : W.b.heap.size ≤ g) (hroom : room ≤ 16777216)
  (hfit : ((sumN (xs.filter fun x => !runT x.name) + 700 * TT : Nat) : Int) ≤ room) :
  Calls Tryz.prog 13 #[.pointer (some ⟨g, 0, none⟩), .slice A n c, .int .i64 parts, .agg #[.int .i64 (Zh : Int), .int .i64 (Z : Int)]] w (SortR W.b g room (xs.filter fun x => !runT x.name).length n (chN Zh n) ((isort ltM l).map canE) (PassZ Z n (chN Zh n)) ops w) := by
 have hn := HE.at.2.1
 have hfl : (xs.filter fun x => !runT x.name).length ≤ xs.length := List.length_filter_le _ _
 have hbs : W.b.heap.size ≤ w.heap.size := hs.below.gb.size
 refine sortW_any A n c l parts Zh Z (chN Zh n) _ _ _ (Lib.hid hn) (by omega) (Lib.hid hp) (by unfold planB; simp; omega) (Lib.hid hall) hr hf (by omega) w hs ⟨h.1, by omega⟩ (Lib.hid fun w' hk => (HE.kf hk).at.1) (Lib.hid fun w4 b o4 hb hb4 hk hR hs4 ho => ?_)
 rcases HE with ⟨rfl, rfl, rfl, rfl⟩ | ⟨gl, ol, rfl, hE, -, h0, hnc, hcm⟩
 ·have hc0 : chN Zh 0 = 0 := by unfold chN; exact Nat.div_eq_of_lt (by omega)
  rw [hc0]
  refine (sortM_none b Zh Z _ hZh w4 hR hs4 ⟨ho.1, by omega⟩ rfl).mono ?_
  rintro e w5 ⟨L, c5, J, rfl, hJ, h1, h2, h3, h4⟩
  exact ⟨L, c5, J, rfl, .inl ⟨rfl, hJ⟩, h1, h2, h3, h4⟩
 ·have hgl : gl < w.heap.size := by obtain ⟨cur, t, fr, h1, -⟩ := hE; exact (Array.getElem?_eq_some_iff.1 h1).1
  have hG : BegG TT dgI W.b w4 g room b gl (xs.filter fun x => !runT x.name).length (sumN (xs.filter fun x => !runT x.name)) Zh parts l (chN Zh n) o4 w4.heap.size :=
   ⟨namerI, ⟨by omega, Nat.le_refl _, by omega, hb4, by omega, by omega⟩, hZh, fun k => by rw [hn]; exact chN_iff hZh.1 k, by omega, by rw [hn]; exact hbig, hfin, hall, ⟨ho.1, by omega⟩, HT, hg, by omega, hroom, hfit⟩
  refine (sortM_some (W := ⟨W.b, w4⟩) hG hZ (RS.start hr) hs4 hR (hE.kf hk) hn hnc hcm).mono ?_
  rintro e w5 ⟨L, c5, J, rfl, hJ, h1, h2, h3, h4⟩
  exact ⟨L, c5, J, rfl, .inr ⟨h0, hJ⟩, h1, h2, h3, h4⟩
end
def awE (i : Nat) : Ev := ⟨0, 0, -(i : Int), { data := #[] }, 0⟩
def awL (k : Nat) : List Ev := (List.range k).map awE
theorem awL_succ (k : Nat) : awL (k + 1) = awL k ++ [awE k] := by unfold awL; rw [List.range_succ, List.map_append]; rfl
theorem aw_pass {J : Nat} (h : PassZ 2 10 (chN 2 10) J) : J = 3 := by
 rcases h with ⟨h, -⟩ | ⟨-, h1, h2⟩
 ·omega
 ·have e0 : itN 2 (chN 2 10) 0 = 5 := by decide
  have e1 : itN 2 (chN 2 10) 1 = 3 := by decide
  have e2 : itN 2 (chN 2 10) 2 = 2 := by decide
  have e3 : itN 2 (chN 2 10) 3 = 1 := by decide
  rcases Nat.lt_or_ge J 3 with hJ | hJ
  ·rcases J with _ | _ | _ | J
   ·rw [e0] at h1; omega
   ·rw [e1] at h1; omega
   ·rw [e2] at h1; omega
   ·omega
  ·rcases Nat.lt_or_ge 3 J with hJ2 | hJ2
   ·have := h2 3 hJ2; rw [e3] at this; omega
   ·omega
theorem aw_out : ((isort ltM (awL 10)).map canE)[0]? = some ⟨0, 0, -9, { data := #[] }, 0⟩ := by kernel_rfl
theorem aw_fine : ∀ x ∈ awL 10, FineE x ∧ formB x 1 = true := fun x hx => by
 obtain ⟨i, hi, rfl⟩ := List.mem_map.1 hx
 have h := List.mem_range.1 hi
 have hk : ({ data := #[] } : ByteArray).size = 0 := rfl
 refine ⟨⟨by unfold awE; dsimp only; omega, by unfold awE; dsimp only; omega, by unfold awE; dsimp only; omega, by unfold awE; dsimp only; omega, by unfold awE; dsimp only; omega⟩, ?_⟩
 unfold formB awE
 simp [hk]; omega
set_option maxHeartbeats 8000000 in
theorem awakeO_any (w : World) (HT : TabsAt w) : Calls Tryz.prog 9 #[] w fun e w' => e = .returned (.bool true) ∧ Below w.heap.size w w' := by
 have HTT := Lib.hid HT
 clear HT
 go_enter Tryz.func9, Tryz.ntmps9
 go_wp2_with (go_at_call 11; (with_reducible refine (new_anyF 65536 (by decide) w).mono ?_); rintro e w1 ⟨g, rfl, h1, h2⟩; have HG := Lib.hid h1; have HS0 := Lib.hid h2; clear h1 h2)
 go_loopw [3, 4] (fun u v wr => ∃ (k : Nat) (A : Option Addr) (cap : Nat), k ≤ 10 ∧ v = .int .i64 (k : Int) ∧ u = .slice A k cap ∧ Hid (OwnE wr w1.heap.size A k cap (awL k)) ∧ Hid (Below w1.heap.size w1 wr)) (fun _ v _ => 10 - (intOf v).toNat)
 case atStart => exact ⟨0, none, 0, by omega, rfl, rfl, Lib.hid (World.ownsRow_nil _ _ _ 5), Lib.hid (Below.refl _ _)⟩
 case round =>
  obtain ⟨k, A, cap, hk, rfl, rfl, HO, HB⟩ := hrel
  by_cases hlt : k < 10
  ·have hlti : (k : Int) < 10 := by omega
   have hneg : IntKind.i64.wrap (-(k : Int)) = -(k : Int) := by rw [IntKind.wrap_i64]; omega
   have hal := (Below.refl wr.heap.size wr).alloc (Nat.le_refl _) (.cells #[.int .u64 0, .int .i64 0, .int .i64 (-(k : Int)), .string { data := #[] }, .float .f64 0] 51)
   have HAL := Lib.hid hal
   have HO1 : Hid (OwnE (wr.alloc (.cells #[.int .u64 0, .int .i64 0, .int .i64 (-(k : Int)), .string { data := #[] }, .float .f64 0] 51)) w1.heap.size A k cap (awL k)) := Lib.hid (HO.out.keptE (S := fun _ => False) (Kept.of_below hal) (fun k hk => hk.elim))
   have HE1 : Hid (EvAt (wr.alloc (.cells #[.int .u64 0, .int .i64 0, .int .i64 (-(k : Int)), .string { data := #[] }, .float .f64 0] 51)) (some ⟨wr.heap.size, 0, none⟩) [awE k]) := Lib.hid fun j v hv => ⟨wr.heap.size, 0, rfl, by simp, by
    rw [cell_of_row _ _ _ _ _ _ (heap_alloc_new' wr _), Nat.zero_add]
    simpa [evs, Ev.cells, awE] using hv⟩
   clear hal
   go_wp2_with (refine wpList_append_ev rfl (.tmp 17) (.tmp 21) rfl w1.heap.size A k cap (awL k) rfl HO1.out (some ⟨wr.heap.size, 0, none⟩) 1 1 [awE k] rfl rfl HE1.out (fun h => by cases h) (k + 1) rfl (by omega) (Nat.le_trans HB.out.size HAL.out.size) ?_; intro A2 c2 w2 h1 h2 h3 h4 h5; have HO2 := Lib.hid h1; have HB2 := Lib.hid h5; clear h1 h2 h3 h4 h5)
   go_roundw
   case rel => exact ⟨k + 1, A2, c2, by omega, by go_num, rfl, Lib.hid (by rw [awL_succ]; exact HO2.out), Lib.hid ((HB.out.trans (HAL.out.mono HB.out.size)).trans HB2.out)⟩
   case measure => simp [intOf]; omega
  ·have hk10 : k = 10 := by omega
   subst hk10
   have hsa : SA (Bs.of w) g 65536 false 0 0 [] wr := SA.next (.inl ⟨rfl, HS0.out⟩) HB.out
   have hbw : w.heap.size ≤ wr.heap.size := hsa.below.gb.size
   have hso := sortS_any (W := Bs.of w) (g := g) (room := 65536) (ops := 0) (xs := []) 20 A 10 cap (awL 10) 1 2 2 (by decide) (by decide) (by decide) (fun x hx => (aw_fine x hx).1) (fun x hx => (aw_fine x hx).2) (by decide) (fun j k x y _ hx => by simp at hx) (fun x hx => nomatch hx) (by decide) wr hsa (by decide) (EvS.of_own HO.out (by decide)) HTT.out HG.out (by decide) (by decide)
   have HSO : Hid (Calls Tryz.prog 13 #[.pointer (some ⟨g, 0, none⟩), .slice A 10 cap, .int .i64 1, .agg #[.int .i64 2, .int .i64 2]] wr fun e w' => ∃ q c, e = .returned (.tuple #[.slice (some ⟨q, 0, none⟩) 10 c, .int .i64 5, .int .i64 3, .int .i64 0]) ∧ w'.cell? ⟨q, 2, none⟩ = some (.int .i64 (-9)) ∧ Below w.heap.size w w') := Lib.hid (hso.mono fun e w' h => by
    obtain ⟨L, c, J, rfl, hP, h1, h2, h3, h4, zs, o, h5, h6⟩ := h
    obtain rfl := aw_pass hP
    obtain ⟨q, rfl⟩ := ownE_some h3 (by decide) h1
    refine ⟨q, c, rfl, ?_, gb_new h5.below HG.out⟩
    obtain ⟨g', off', e', -, hr⟩ := evr h3.at' 0 _ aw_out
    injection e' with e'; injection e' with b1 b2 _
    subst b1; subst b2
    exact hr 2 _ rfl)
   clear hso hsa hlt hk
   go_wp2_with (go_at_call 13; (with_reducible refine HSO.out.mono ?_); rintro e w4 ⟨q, c4, rfl, h1, h2⟩; have HB4 := Lib.hid h2; clear h2)
   go_ret
   exact ⟨rfl, HB4.out⟩
end Go.Proofs.YtjldamkmdkaiiaaGreatDoor
