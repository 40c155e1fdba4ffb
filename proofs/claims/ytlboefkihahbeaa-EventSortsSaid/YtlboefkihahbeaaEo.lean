/-
  Layer event: the library's stable sort of events, at any length.
-/
import Derived.Test.YtlboefkihahbeaaEn
import Derived.Test.YtlboefkihahbeaaEe
set_option linter.unusedSimpArgs false
set_option linter.unusedVariables false
namespace Go.Proofs.Ytlboefkihahbeaa
open Go.RowKit Go.Sort

abbrev ltE : Ev → Ev → Bool := ltOf evCmp
/-- Sorted by blocks. -/
def bsort (bs : Nat) : Nat → List Ev → List Ev
  | 0, _ => []
  | k + 1, s => isort ltE (s.take bs) ++ bsort bs k (s.drop bs)
def bsrt (bs : Nat) (s : List Ev) : List Ev := bsort bs (s.length + 1) s
theorem isort_nil : isort ltE [] = [] := rfl
theorem bsort_nil (bs k : Nat) : bsort bs k [] = [] := by
  induction k with
  | zero => rfl
  | succ k ih => rw [bsort, List.take_nil, List.drop_nil, isort_nil, ih]; rfl
theorem bsort_fuel (bs : Nat) (h : 0 < bs) : ∀ (k : Nat) (s : List Ev), s.length < k → bsort bs k s = bsrt bs s := by
  intro k
  induction k using Nat.strongRecOn with
  | _ k ih =>
    intro s hs
    rcases k with _ | k
    · omega
    · unfold bsrt
      rw [bsort, bsort]
      congr 1
      rcases s with _ | ⟨x, r⟩
      · rw [List.drop_nil, bsort_nil, bsort_nil]
      · have hl : ((x :: r).drop bs).length < k := by rw [List.length_drop]; simp at hs ⊢; omega
        rw [ih k (by omega) _ hl]
        by_cases hk : (x :: r).length < k + 1
        · rw [ih (x :: r).length (by omega) _ (by rw [List.length_drop]; simp; omega)]
        · omega
theorem bsrt_step (bs : Nat) (h : 0 < bs) (s : List Ev) : bsrt bs s = isort ltE (s.take bs) ++ bsrt bs (s.drop bs) := by
  conv => lhs; unfold bsrt
  rw [bsort]
  rcases s with _ | ⟨x, r⟩
  · rw [List.drop_nil, bsort_nil]; unfold bsrt; rw [bsort_nil]
  · rw [bsort_fuel bs h _ _ (by rw [List.length_drop]; simp; omega)]
theorem bsrt_small (bs : Nat) (h : 0 < bs) (s : List Ev) (hs : s.length ≤ bs) : bsrt bs s = isort ltE s := by
  rw [bsrt_step bs h, List.take_of_length_le hs, List.drop_of_length_le hs]
  unfold bsrt; rw [bsort_nil, List.append_nil]
theorem bsrt_len (bs : Nat) (h : 0 < bs) : ∀ (k : Nat) (s : List Ev), s.length ≤ k → (bsrt bs s).length = s.length := by
  intro k
  induction k with
  | zero => intro s hs; obtain rfl : s = [] := List.eq_nil_of_length_eq_zero (by omega); unfold bsrt; rw [bsort_nil]
  | succ k ih =>
    intro s hs
    rw [bsrt_step bs h, List.length_append, isort_len, ih (s.drop bs) (by rw [List.length_drop]; omega), List.length_take, List.length_drop]; omega
theorem drop_split (l : List Ev) (a n : Nat) (h : n = l.length) : seg l a n = l.drop a := by
  unfold seg; rw [List.take_of_length_le (by rw [List.length_drop]; omega)]
/-- Behind some blocks: sorted so far, the rest as it was. -/
structure First (l lk : List Ev) (a : Nat) : Prop where
  ex : ∃ X, lk = X ++ l.drop a ∧ X.length = a ∧ X ++ bsrt 20 (l.drop a) = bsrt 20 l
  le : a ≤ l.length
theorem First.step {l lk : List Ev} {a : Nat} (h : First l lk a) (hb : a + 20 ≤ l.length) : First l (srt ltE lk a (a + 20)) (a + 20) := by
  obtain ⟨X, e1, e2, e3⟩ := h.ex
  subst e1
  have hl : (l.drop a).length = l.length - a := List.length_drop ..
  have es : X ++ l.drop a = X ++ ((l.drop a).take 20 ++ l.drop (a + 20)) := by rw [show l.drop (a + 20) = (l.drop a).drop 20 by rw [List.drop_drop], List.take_append_drop]
  refine ⟨⟨X ++ isort ltE ((l.drop a).take 20), ?_, ?_, ?_⟩, hb⟩
  · unfold srt
    rw [es, seg_of X _ _ a (a + 20) e2 (by rw [e2, List.length_take]; omega), take_of X _ a e2, drop_of X _ _ (a + 20) (by rw [e2, List.length_take]; omega)]; simp
  · rw [List.length_append, isort_len, List.length_take, e2]; omega
  · rw [← e3, bsrt_step 20 (by decide) (l.drop a), List.drop_drop]; simp
theorem First.last {l lk : List Ev} {a n : Nat} (h : First l lk a) (hn : n = l.length) (hb : n < a + 20) : srt ltE lk a n = bsrt 20 l := by
  obtain ⟨X, e1, e2, e3⟩ := h.ex
  subst e1
  have hl : (l.drop a).length = l.length - a := List.length_drop ..
  have hle := h.le
  have es : X ++ l.drop a = X ++ (l.drop a ++ []) := by simp
  unfold srt
  rw [es, seg_of X _ _ a n e2 (by omega), take_of X _ a e2, drop_of X _ _ n (by omega), ← e3, bsrt_small 20 (by decide) (l.drop a) (by omega)]; simp
/-- Behind some merged pairs of blocks. -/
structure Pass (l lk : List Ev) (bs a : Nat) : Prop where
  ex : ∃ X, lk = X ++ bsrt bs (l.drop a) ∧ X.length = a ∧ X ++ bsrt (2 * bs) (l.drop a) = bsrt (2 * bs) l
  le : a ≤ l.length
theorem Pass.shape {l lk : List Ev} {bs a : Nat} (h : Pass l lk bs a) (hbs : 0 < bs) : ∃ X, X.length = a ∧ X ++ bsrt (2 * bs) (l.drop a) = bsrt (2 * bs) l ∧ lk = X ++ (isort ltE ((l.drop a).take bs) ++ (isort ltE ((l.drop (a + bs)).take bs) ++ bsrt bs (l.drop (a + 2 * bs)))) := by
  obtain ⟨X, e1, e2, e3⟩ := h.ex
  refine ⟨X, e2, e3, ?_⟩
  rw [e1, bsrt_step bs hbs (l.drop a), List.drop_drop, bsrt_step bs hbs (l.drop (a + bs)), List.drop_drop, show a + bs + bs = a + 2 * bs by omega]
theorem Pass.segs {l lk : List Ev} {bs a b : Nat} (h : Pass l lk bs a) (hbs : 0 < bs) (hm : a + bs ≤ l.length) (hb : b = (if a + 2 * bs ≤ l.length then a + 2 * bs else l.length)) :
    seg lk a (a + bs) = isort ltE ((l.drop a).take bs) ∧ seg lk (a + bs) b = isort ltE ((l.drop (a + bs)).take bs) ∧ lk.length = l.length := by
  obtain ⟨X, e2, e3, e4⟩ := h.shape hbs
  have g1 : (isort ltE ((l.drop a).take bs)).length = bs := by rw [isort_len, List.length_take, List.length_drop]; omega
  have g2 : (isort ltE ((l.drop (a + bs)).take bs)).length = b - (a + bs) := by rw [isort_len, List.length_take, List.length_drop]; split at hb <;> omega
  have hbb : a + bs ≤ b := by split at hb <;> omega
  refine ⟨?_, ?_, ?_⟩
  · rw [e4]; exact seg_of _ _ _ _ _ e2 (by omega)
  · rw [e4, ← List.append_assoc]; exact seg_of _ _ _ _ _ (by rw [List.length_append]; omega) (by rw [List.length_append]; omega)
  · obtain ⟨X', f1, f2, f3⟩ := h.ex
    rw [f1, List.length_append, bsrt_len bs hbs _ _ (Nat.le_refl _), List.length_drop]; have := h.le; omega
theorem Pass.step {l lk : List Ev} {bs a b : Nat} (h : Pass l lk bs a) (hbs : 0 < bs) (hm : a + bs ≤ l.length) (hb : b = (if a + 2 * bs ≤ l.length then a + 2 * bs else l.length)) : Pass l (mrg ltE lk a (a + bs) b) bs b := by
  obtain ⟨s1, s2, s3⟩ := h.segs hbs hm hb
  obtain ⟨X, e2, e3, e4⟩ := h.shape hbs
  have g1 : (isort ltE ((l.drop a).take bs)).length = bs := by rw [isort_len, List.length_take, List.length_drop]; omega
  have g2 : (isort ltE ((l.drop (a + bs)).take bs)).length = b - (a + bs) := by rw [isort_len, List.length_take, List.length_drop]; split at hb <;> omega
  have hbb : a + bs ≤ b ∧ b ≤ l.length := by split at hb <;> omega
  have hd : l.drop b = l.drop (a + 2 * bs) := by
    split at hb
    · rw [hb]
    · rw [List.drop_of_length_le (by omega), List.drop_of_length_le (by omega)]
  have hj : smerge ltE (isort ltE ((l.drop a).take bs)) (isort ltE ((l.drop (a + bs)).take bs)) = isort ltE ((l.drop a).take (2 * bs)) := by
    rw [← isort_append wkE, show 2 * bs = bs + bs by omega, List.take_add, List.drop_drop]
  refine ⟨⟨X ++ isort ltE ((l.drop a).take (2 * bs)), ?_, ?_, ?_⟩, hbb.2⟩
  · have d1 : lk.take a = X := by rw [e4]; exact take_of _ _ _ e2
    have d2 : lk.drop b = bsrt bs (l.drop (a + 2 * bs)) := by
      rw [e4, ← List.append_assoc, ← List.append_assoc, show (X ++ isort ltE ((l.drop a).take bs) ++ isort ltE ((l.drop (a + bs)).take bs) ++ bsrt bs (l.drop (a + 2 * bs))).drop b = _ from List.drop_left' (by simp only [List.length_append]; omega)]
    unfold mrg
    rw [s1, s2, hj, d1, d2, hd]; simp
  · rw [List.length_append, isort_len, List.length_take, List.length_drop, e2]; split at hb <;> omega
  · rw [← e3, bsrt_step (2 * bs) (by omega) (l.drop a), List.drop_drop, hd]; simp
theorem Pass.done {l lk : List Ev} {bs : Nat} (h : Pass l lk bs l.length) (hbs : 0 < bs) : lk = bsrt (2 * bs) l := by
  obtain ⟨X, e1, e2, e3⟩ := h.ex
  rw [List.drop_length] at e1 e3
  rw [← e3, e1]; unfold bsrt; rw [bsort_nil, bsort_nil]
theorem Pass.small {l lk : List Ev} {bs a : Nat} (h : Pass l lk bs a) (hbs : 0 < bs) (hs : l.length ≤ a + bs) : lk = bsrt (2 * bs) l := by
  obtain ⟨X, e1, e2, e3⟩ := h.ex
  rw [← e3, e1, bsrt_small bs hbs _ (by rw [List.length_drop]; omega), bsrt_small (2 * bs) (by omega) _ (by rw [List.length_drop]; omega)]
theorem pass_start (l : List Ev) (bs : Nat) : Pass l (bsrt bs l) bs 0 := ⟨⟨[], by simp, rfl, by simp⟩, Nat.zero_le _⟩
theorem first_start (l : List Ev) : First l l 0 := ⟨⟨[], by simp, rfl, by simp⟩, Nat.zero_le _⟩
/-- The library's sort by insertions, from a world of the sort's. -/
theorem insE_any (blk cap a b N : Nat) (l : List Ev) (w0 w : World) (HR : Hid (RowE w0 blk N)) (hN : l.length = N) (HS : Hid (SWE w0 blk l w)) (hab : a ≤ b) (hb : b ≤ N) (hsz : N ≤ 1000000) :
    Calls Try.prog 33 #[.slice (some ⟨blk, 0, none⟩) N cap, .int .i64 a, .int .i64 b, .func (.func 16) #[] #[]] w fun e w' => e = .returned (.tuple #[]) ∧ SWE w0 blk (srt ltE l a b) w' := by
  obtain ⟨l0, e0, R⟩ := HR.out
  have hH := HS.out.holds R.hblk R.hH (by simp; omega)
  have h := ins_any blk cap a b l.toArray w hH (HS.out.lt R.hblk) hab (by simpa [hN] using hb) (by simp; omega)
  rw [show l.toArray.size = N by simpa using hN] at h
  refine h.mono ?_
  rintro e w' ⟨rfl, n, os, rfl⟩
  refine ⟨rfl, ?_⟩
  have h2 := HS.out.on R.hblk n (insertionSort (ltOf evCmp) l.toArray a b) os (by rw [ins_srt l a b hab (by omega)]; simp; exact srt_len l a b hab (by omega))
  rw [ins_srt l a b hab (by omega)] at h2 ⊢
  exact h2
def RF (w0 : World) (blk N : Nat) (l : List Ev) (u v : Value) (wr : World) : Prop := ∃ a : Nat, ∃ lk, u = .int .i64 a ∧ v = .int .i64 ((a : Int) + 20) ∧ First l lk a ∧ SWE w0 blk lk wr
def RO (w0 : World) (blk N : Nat) (l : List Ev) (t : Value) (wr : World) : Prop := ∃ bs : Nat, t = .int .i64 bs ∧ 20 ≤ bs ∧ bs ≤ 2 * N + 20 ∧ SWE w0 blk (bsrt bs l) wr
def RP (w0 : World) (blk N bs : Nat) (l : List Ev) (u v : Value) (wr : World) : Prop := ∃ a : Nat, ∃ lk, u = .int .i64 a ∧ v = .int .i64 ((a : Int) + 2 * (bs : Int)) ∧ Pass l lk bs a ∧ SWE w0 blk lk wr
set_option maxHeartbeats 8000000 in
theorem stable_any (blk cap N : Nat) (l : List Ev) (w0 w : World) (HR : Hid (RowE w0 blk N)) (hLN0 : l.length = N) (HS0 : Hid (SWE w0 blk l w)) (hsz : N ≤ 1000000) :
    Calls Try.prog 27 #[.slice (some ⟨blk, 0, none⟩) N cap, .int .i64 N, .func (.func 16) #[] #[]] w fun e w' => e = .returned (.tuple #[]) ∧ SWE w0 blk (isort ltE l) w' := by
  have HLN := Lib.hid hLN0
  clear hLN0
  have HSYM := Lib.hid (fun (a m b : Nat) (l' : List Ev) (w' : World) => sym_any blk cap N w0 HR hsz N a m b l' w')
  go_enter Try.func27, Try.ntmps27
  go_wp2
  go_loopw [7, 8] (fun u v wr => RF w0 blk N l u v wr) (fun u _ _ => N - (intOf u).toNat)
  case atStart => exact ⟨0, l, rfl, rfl, first_start l, HS0.out⟩
  case round =>
    obtain ⟨a, lk, rfl, rfl, hf, hst⟩ := hrel
    have HF := Lib.hid hf
    have HS := Lib.hid hst
    have hle := hf.le
    clear hf hst HS0
    rw [HLN.out] at hle
    by_cases hlt : a + 20 ≤ N
    · have hz : (a : Int) + 20 ≤ (N : Int) := by omega
      have hc : ((a : Int) + 20) = ((a + 20 : Nat) : Int) := by omega
      have HC := Lib.hid hc
      clear hc
      have HLK : Hid (lk.length = N) := Lib.hid (by obtain ⟨X, e1, e2, e3⟩ := HF.out.ex; rw [e1, List.length_append, List.length_drop, e2, HLN.out]; omega)
      go_wp2_with (go_at_call 33; rw [HC.out]; refine (insE_any blk cap a (a + 20) N lk w0 _ HR HLK.out HS (by omega) hlt hsz).mono ?_; rintro e w2 ⟨rfl, hs⟩; have HS2 := Lib.hid hs; clear hs)
      go_roundw
      case rel => exact ⟨a + 20, _, by go_num, by go_num, HF.out.step (by rw [HLN.out]; omega), HS2.out⟩
      case measure => simp [intOf]; omega
    · have hz : ¬ ((a : Int) + 20 ≤ (N : Int)) := by omega
      have HLK : Hid (lk.length = N) := Lib.hid (by obtain ⟨X, e1, e2, e3⟩ := HF.out.ex; rw [e1, List.length_append, List.length_drop, e2, HLN.out]; omega)
      have HLAST := Lib.hid (HF.out.last HLN.out.symm (by omega))
      go_wp2_with (go_at_call 33; refine (insE_any blk cap a N N lk w0 _ HR HLK.out HS (by omega) (Nat.le_refl _) hsz).mono ?_; rintro e w2 ⟨rfl, hs⟩; rw [HLAST.out] at hs; have HS2 := Lib.hid hs; clear hs)
      clear hz
      go_loopw [6] (fun t wr => RO w0 blk N l t wr) (fun t _ => N - (intOf t).toNat)
      case atStart => exact ⟨20, rfl, by omega, by omega, HS2.out⟩
      case round =>
        obtain ⟨bs, rfl, h20, hbN, hst⟩ := hrel
        have HS3 := Lib.hid hst
        clear hst HS2 HS
        by_cases hbs : bs < N
        · go_wp2
          go_loopw [7, 8] (fun u v wr => RP w0 blk N bs l u v wr) (fun u _ _ => N - (intOf u).toNat)
          case atStart => exact ⟨0, _, rfl, by go_num, pass_start l bs, HS3.out⟩
          case round =>
            obtain ⟨a2, lk2, rfl, rfl, hp, hst⟩ := hrel
            have HP := Lib.hid hp
            have HS4 := Lib.hid hst
            have hle2 := hp.le
            clear hp hst HS3
            rw [HLN.out] at hle2
            by_cases hb2 : a2 + 2 * bs ≤ N
            · have hz : (a2 : Int) + 2 * (bs : Int) ≤ (N : Int) := by omega
              have HC1 : Hid ((a2 : Int) + (bs : Int) = ((a2 + bs : Nat) : Int)) := Lib.hid (by omega)
              have HC2 : Hid ((a2 : Int) + 2 * (bs : Int) = ((a2 + 2 * bs : Nat) : Int)) := Lib.hid (by omega)
              have HB : Hid (a2 + 2 * bs = (if a2 + 2 * bs ≤ l.length then a2 + 2 * bs else l.length)) := Lib.hid (by rw [if_pos (by rw [HLN.out]; exact hb2)])
              have HSG := Lib.hid (HP.out.segs (by omega) (by rw [HLN.out]; omega) HB.out)
              have HPS := Lib.hid (HP.out.step (by omega) (by rw [HLN.out]; omega) HB.out)
              go_wp2_with (go_at_call 34; rw [HC1.out, HC2.out]; refine ((HSYM.out a2 (a2 + bs) (a2 + 2 * bs) lk2 _ (by omega) (by omega) (by omega) hb2 (by rw [HSG.out.2.2]; exact HLN.out) (by rw [HSG.out.1]; exact isort_ordered wkE _) (by rw [HSG.out.2.1]; exact isort_ordered wkE _) HS4).at).mono ?_; rintro e w5 ⟨rfl, hs⟩; have HS5 := Lib.hid hs; clear hs)
              go_roundw
              case rel => exact ⟨a2 + 2 * bs, _, by go_num, by go_num, HPS.out, HS5.out⟩
              case measure => simp [intOf]; omega
            · have hz : ¬ ((a2 : Int) + 2 * (bs : Int) ≤ (N : Int)) := by omega
              by_cases hm : a2 + bs < N
              · have hz2 : (a2 : Int) + (bs : Int) < (N : Int) := by omega
                have HC1 : Hid ((a2 : Int) + (bs : Int) = ((a2 + bs : Nat) : Int)) := Lib.hid (by omega)
                have HB : Hid (N = (if a2 + 2 * bs ≤ l.length then a2 + 2 * bs else l.length)) := Lib.hid (by rw [if_neg (by rw [HLN.out]; exact hb2), HLN.out])
                have HSG := Lib.hid (HP.out.segs (by omega) (by rw [HLN.out]; omega) HB.out)
                have HPS := Lib.hid (HP.out.step (by omega) (by rw [HLN.out]; omega) HB.out)
                have HDN : Hid (mrg ltE lk2 a2 (a2 + bs) N = bsrt (2 * bs) l) := Lib.hid (by have h := HPS.out; rw [← HLN.out] at h; have h2 := h.done (by omega); rw [HLN.out] at h2; exact h2)
                go_wp2_with (go_at_call 34; rw [HC1.out]; refine ((HSYM.out a2 (a2 + bs) N lk2 _ (by omega) (by omega) (by omega) (Nat.le_refl _) (by rw [HSG.out.2.2]; exact HLN.out) (by rw [HSG.out.1]; exact isort_ordered wkE _) (by rw [HSG.out.2.1]; exact isort_ordered wkE _) HS4).at).mono ?_; rintro e w5 ⟨rfl, hs⟩; have HS5 := Lib.hid hs; clear hs)
                go_roundw
                case rel => exact ⟨bs * 2, by go_num, by omega, by omega, by rw [Nat.mul_comm bs 2, ← HDN.out]; exact HS5.out⟩
                case measure => simp [intOf]; omega
              · have hz2 : ¬ ((a2 : Int) + (bs : Int) < (N : Int)) := by omega
                have HDN := Lib.hid (HP.out.small (by omega) (by rw [HLN.out]; omega))
                go_wp2
                go_roundw
                case rel => exact ⟨bs * 2, by go_num, by omega, by omega, by rw [Nat.mul_comm bs 2, ← HDN.out]; exact HS4.out⟩
                case measure => simp [intOf]; omega
        · have hz : ¬ ((bs : Int) < (N : Int)) := by omega
          go_wp2
          go_end0
          refine ⟨rfl, ?_⟩
          rw [← bsrt_small bs (by omega) l (by rw [HLN.out]; omega)]; exact HS3.out
end Go.Proofs.Ytlboefkihahbeaa
