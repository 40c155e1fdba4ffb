/-
  Layer column: the document's own ReadTexts, of any bytes.
-/
import Derived.Test.YtlhaedcoompjpaaQPread15
import Derived.Test.YtlhaedcoompjpaaQPread5
import Derived.Test.YtlhaedcoompjpaaQPread3
set_option linter.unusedSimpArgs false
set_option linter.unusedVariables false
set_option maxRecDepth 8000
namespace Go.Proofs.Ytlhaedcoompjpaa
open Go.RowKit Go.WideShapes Col
namespace Col
theorem runS_pre {σ α : Type} {step : σ → Option (α × σ)} {k : Nat} {s s1 : σ} {xs : List α} (h : runS step k s = some (xs, s1)) : ∀ n, k ≤ n → ∀ ys s2, runS step n s = some (ys, s2) → ys.take k = xs := by
  intro n hn
  induction n with
  | zero =>
    intro ys s2 h2
    obtain rfl : k = 0 := by omega
    rw [h] at h2; injection h2 with h2; injection h2 with h2 h3
    rw [← h2]; have := runS_len h; exact List.take_of_length_le (by omega)
  | succ n ih =>
    intro ys s2 h2
    by_cases hk : k = n + 1
    · subst hk
      rw [h] at h2; injection h2 with h2; injection h2 with h2 h3
      rw [← h2]; have := runS_len h; exact List.take_of_length_le (by omega)
    · rw [runS] at h2
      rcases hr : runS step n s with _ | ⟨zs, s3⟩
      · rw [hr] at h2; cases h2
      · rw [hr] at h2
        simp only [Option.bind_some] at h2
        rcases hs : step s3 with _ | ⟨z, s4⟩
        · rw [hs] at h2; cases h2
        · rw [hs] at h2
          injection h2 with h2; injection h2 with h2 h3
          have h4 := ih (by omega) zs s3 hr
          have h5 := runS_len hr
          rw [← h2, List.take_append_of_le_length (by omega)]; exact h4
/-- Two texts that don't rise: there are none. -/
theorem rU_fall {q r : List Nat} {n k : Nat} {l : List (List Nat)} {s' : List Nat} {s t : List Nat} (h : uP 4096 q = some (n, r)) (hr : runS (tP 32) (k + 1) r = some (l, s')) (hk : k + 1 ≤ n) (j : Nat) (hj : j + 1 = k) (hs : l[j]? = some s) (ht : l[k]? = some t) (hls : tls s t = false) : rU q = none := by
  rcases hr2 : runS (tP 32) n r with _ | ⟨ys, s2⟩
  · exact rU_no2 h hr2
  · rcases hri : rising ys with _ | _
    · exact rU_no3 h hr2 hri
    · have h3 := runS_pre hr n hk ys s2 hr2
      have h4 : ys[j]? = some s := by rw [← h3, List.getElem?_take] at hs; split at hs; exact hs; cases hs
      have h5 : ys[j + 1]? = some t := by rw [hj]; rw [← h3, List.getElem?_take] at ht; split at ht; exact ht; cases ht
      have := rising_get hri j s t h4 h5
      rw [hls] at this; cases this
theorem rising_snoc {l : List (List Nat)} {t : List Nat} (h : rising l = true) (h2 : ∀ (j : Nat) (s : List Nat), j + 1 = l.length → l[j]? = some s → tls s t = true) : rising (l ++ [t]) = true := by
  refine rising_of fun i s t2 hs ht => ?_
  have hi : i < l.length := by
    have := (List.getElem?_eq_some_iff.1 ht).1
    simp at this; omega
  rw [List.getElem?_append_left hi] at hs
  by_cases e : i + 1 < l.length
  · rw [List.getElem?_append_left e] at ht
    exact rising_get h i s t2 hs ht
  · have e2 : i + 1 = l.length := by omega
    rw [e2] at ht
    simp at ht
    subst ht
    exact h2 i s e2 hs
theorem tls_nil (s : List Nat) : tls s [] = false := by
  unfold tls; rw [str_nil]
  have e : ({ data := #[] } : ByteArray).toList = [] := by rw [ByteArray.toList_eq]
  rw [e]
  rcases (strB s).toList <;> rfl
theorem rTL_no {q r : List Nat} {ts : List (List Nat)} (h : rU q = some (ts, r)) (h2 : riL r = none) : rTL q = none := by
  rcases hi : rI r with _ | ⟨xs, _ | ⟨y, ys⟩⟩
  · exact rTL_none (rT_no2 h hi)
  · rw [riL_some hi] at h2; cases h2
  · rcases ho : okT ts xs with _ | _
    · exact rTL_none (rT_no3 h hi ho)
    · exact rTL_left (rT_yes h hi ho) (by simp)
end Col
/-- How the document's ReadTexts ends. -/
def RTRef (w : World) (o : Option (List (List Nat))) (e : Ending) (w' : World) : Prop := match o with
  | some l => (∃ A' n' cap', e = .returned (.tuple #[.slice A' n' cap', .bool true]) ∧ OwnX w' w.heap.size A' n' cap' l) ∧ Below w.heap.size w w'
  | none => e = .returned (.tuple #[.slice none 0 0, .bool false]) ∧ Below w.heap.size w w'
/-- The texts that there are, read so far. -/
def RA1 (w : World) (B m C : Nat) (A : Option Addr) (p q r : List Nat) (n : Nat) (u v : Value) (wr : World) : Prop :=
  ∃ (k : Nat) (A' : Option Addr) (cap' : Nat) (l : List (List Nat)) (s' : Option (List Nat)), k ≤ n ∧ v = .int .u64 (k : Int) ∧ u = .slice A' k cap' ∧ OwnX wr B A' k cap' l ∧ RRA wr m A C p s' ∧ Kept (Only m) w wr ∧
    ((∃ r', s' = some r' ∧ uP 4096 q = some (n, r) ∧ runS (tP 32) k r = some (l, r') ∧ rising l = true) ∨ (s' = none ∧ rU q = none))
structure RA2 (w : World) (B ub B3 : Nat) (A1 : Option Addr) (n1 c1 : Nat) (ts : List (List Nat)) (A2 : Option Addr) (n2 c2 : Nat) (xs : List Int) (A3 : Option Addr) (k c3 : Nat) (wr : World) : Prop where
  own1 : OwnX wr B A1 n1 c1 ts
  own2 : OwnI wr B A2 n2 c2 xs
  off1 : ∀ b, A1.map (·.block) = some b → b < ub
  off2 : ∀ b, A2.map (·.block) = some b → b < ub
  hub : w.heap.size ≤ ub
  ubB : ub < B3
  used : RowBo wr ub (usedL n1 (xs.take k))
  own3 : OwnX wr B3 A3 k c3 ((xs.take k).map (pickT ts))
  below : Below w.heap.size w wr
  size : B3 ≤ wr.heap.size
  ok : ∀ (j : Nat) (x : Int), j < k → xs[j]? = some x → 0 ≤ x ∧ x < (n1 : Int)
set_option maxHeartbeats 8000000 in
theorem refReadTexts (A : Option Addr) (C : Nat) (p : List Nat) (np : Nat) (hnp : Hid (np = p.length)) (hn4 : np ≤ 1000000) (hC : np ≤ C) (hC' : C ≤ maxLen) (w : World) (HA : Hid (ByAt w A p)) :
    Calls Try.prog 19 #[.slice A np C] w (RTRef w (rTL p)) := by
  obtain ⟨ib, hib, hb0, hb1, hb2⟩ := info_parts infoBool
  obtain ⟨m, hm⟩ : ∃ m, m = w.heap.size := ⟨_, rfl⟩
  obtain ⟨w1, hw1⟩ : ∃ w1, w1 = w.alloc (.cells #[.slice A np C, .int .i64 0] 54) := ⟨_, rfl⟩
  have HR1 : Hid (RRA w1 m A C p (some p)) := Lib.hid (by rw [hw1, hm, hnp.out]; exact rra_new (by have := hnp.out; omega) (by have := hnp.out; omega) hC' HA.out)
  have HB1 : Hid (Below w.heap.size w w1) := Lib.hid (by rw [hw1]; exact (Below.refl w.heap.size w).alloc (Nat.le_refl _) _)
  have HSZ : Hid (w1.heap.size = m + 1) := Lib.hid (by rw [hw1, hm]; simp)
  have HBLK : Hid (∀ a, A = some a → 0 < p.length → a.block < m) := Lib.hid fun a ha h0 => by
    obtain ⟨-, g, off, e, hg, -⟩ := HA.out 0 (p[0]'h0) (List.getElem?_eq_getElem h0)
    rw [ha] at e; injection e with e; rw [e, hm]; exact hg
  have HM := Lib.hid hm
  have HW : Hid (w.alloc (.cells #[.slice A np C, .int .i64 0] 54) = w1) := Lib.hid hw1.symm
  obtain ⟨n, hn⟩ : ∃ n, n = (uintS 4096 (some p)).1 := ⟨_, rfl⟩
  obtain ⟨s1, hs1⟩ : ∃ s1, s1 = (uintS 4096 (some p)).2 := ⟨_, rfl⟩
  have HU : Hid (Calls Try.prog 31 #[.pointer (some ⟨m, 0, none⟩), .int .u64 4096] w1 (RByte w1 m A C p (.int .u64 (n : Int)) s1)) := Lib.hid (by
    have := ruint_any m C A p 4096 (some p) w1 HR1
    rw [← hn, ← hs1] at this; exact this)
  have HSTEP : Hid ((∃ r, s1 = some r ∧ uP 4096 p = some (n, r)) ∨ (s1 = none ∧ n = 0 ∧ rU p = none)) := Lib.hid (by
    rcases hu : uP 4096 p with _ | ⟨n', r⟩
    · rw [uintS_none hu] at hn hs1; exact .inr ⟨hs1, hn, rU_no1 hu⟩
    · rw [uintS_some hu] at hn hs1; subst hn; exact .inl ⟨r, hs1, rfl⟩)
  have hn4096 : n ≤ 4096 := by
    rcases HSTEP.out with ⟨r, -, h⟩ | ⟨-, h, -⟩
    · exact (uP_some h).2
    · omega
  clear hn hs1 hw1 hm
  go_enter Try.func19, Try.ntmps19
  go_upto_region 2 with fail
  rw [HW.out, ← HM.out]
  go_wp2_with (go_at_call 31; (with_reducible refine (HU.out).mono ?_); rintro e w2 hy; obtain ⟨rfl, HR2, HK2⟩ := hy.at; clear hy)
  obtain ⟨B, hB⟩ : ∃ B, B = w1.heap.size := ⟨_, rfl⟩
  have HBE := Lib.hid hB
  have hmB : m < B := by rw [hB, HSZ.out]; omega
  clear hB
  have HFAIL : Hid (∀ w9 : World, rTL p = none → Kept (Only m) w1 w9 → RTRef w (rTL p) (.returned (.tuple #[.slice none 0 0, .bool false])) w9) := Lib.hid fun w9 h1 h2 => by
    rw [h1]; exact ⟨rfl, HB1.out.trans (h2.below (B := w.heap.size) (by rw [HSZ.out, HM.out]; omega) fun k hk => by have hk : k = m := hk; rw [hk, HM.out]; exact Nat.le_refl _)⟩
  obtain ⟨r, hr⟩ : ∃ r, r = s1.getD [] := ⟨_, rfl⟩
  have HST : Hid (RA1 w1 B m C A p p r n (.slice none 0 0) (.int .u64 0) w2) := Lib.hid ⟨0, none, 0, [], s1, Nat.zero_le _, rfl, rfl, ⟨World.ownsRow_nil _ _ _ 1, fun x hx => by cases hx⟩, HR2.out, HK2.out, by
    rcases HSTEP.out with ⟨r', h1, h2⟩ | ⟨h1, -, h2⟩
    · rw [h1] at hr; exact .inl ⟨r', h1, by rw [hr]; exact h2, by rw [hr]; rfl, rfl⟩
    · exact .inr ⟨h1, h2⟩⟩
  clear HSTEP hr HR2 HK2 HU
  go_loopw [6, 7] (fun u v wr => RA1 w1 B m C A p p r n u v wr) (fun _ v _ => n - (intOf v).toNat)
  case atStart => exact HST.out
  case round =>
    obtain ⟨k, A', cap', l, s', hk, rfl, rfl, ho, hr, hkp, hcase⟩ := hrel
    have HO := Lib.hid ho; have HR := Lib.hid hr; have HK := Lib.hid hkp
    clear ho hr hkp HST
    have c1 := HR.out.c1
    by_cases hgo : k < n ∧ ∃ r', s' = some r'
    · obtain ⟨hlt, r', rfl⟩ := hgo
      obtain ⟨hup, hrun, hris⟩ : uP 4096 p = some (n, r) ∧ runS (tP 32) k r = some (l, r') ∧ rising l = true := by
        rcases hcase with ⟨r2, h1, h2⟩ | ⟨h1, -⟩
        · injection h1 with h1; subst h1; exact h2
        · cases h1
      clear hcase
      have HUPN := Lib.hid hup
      clear hup
      obtain ⟨z, hz, hzl⟩ := atR_pos HR.out
      rw [hz] at c1
      have hz0 : (0 : Int) ≤ (z : Int) := by omega
      obtain ⟨t, ht⟩ : ∃ t, t = (textS 32 (some r')).1 := ⟨_, rfl⟩
      obtain ⟨s2, hs2⟩ : ∃ s2, s2 = (textS 32 (some r')).2 := ⟨_, rfl⟩
      have HT : Hid (Calls Try.prog 35 #[.pointer (some ⟨m, 0, none⟩), .int .i64 32] wr (RByte wr m A C p (.string (strB t)) s2)) := Lib.hid (by
        have := rtext_any m C A p 32 (by decide) (some r') wr HR
        rw [← ht, ← hs2] at this; exact this)
      have hlk : l.length = k := runS_len hrun
      have HLK := Lib.hid hlk
      have HRUN := Lib.hid hrun; have HRIS := Lib.hid hris
      have HNX : Hid (WfT t ∧ ((∃ r2, s2 = some r2 ∧ runS (tP 32) (k + 1) r = some (l ++ [t], r2)) ∨ (s2 = none ∧ t = [] ∧ rU p = none))) := Lib.hid (by
        rcases htp : tP 32 r' with _ | ⟨t2, r2⟩
        · rw [textS_none htp] at ht hs2
          exact ⟨by rw [ht]; intro c hc; (cases hc), .inr ⟨hs2, ht, rU_no2 HUPN.out (runS_none hrun htp n hlt)⟩⟩
        · rw [textS_some htp] at ht hs2
          refine ⟨by rw [ht]; exact fun c hc => HR.out.wf c ((tP_left htp).2.1 c hc), .inl ⟨r2, hs2, by rw [ht]; exact runS_some hrun htp⟩⟩)
      have hbs0 := HK.out.size
      clear hrun hris ht hs2 hz hzl
      by_cases hgood : k = 0 ∨ ∃ s, l[k - 1]? = some s ∧ tls s t = true
      · have HRIS2 : Hid (∀ r2, s2 = some r2 → rising (l ++ [t]) = true) := Lib.hid fun r2 _ => rising_snoc HRIS.out fun j s hj hs => by
          rcases hgood with h | ⟨s3, h1, h2⟩
          · omega
          · rw [show k - 1 = j by omega, hs] at h1; injection h1 with h1; subst h1; exact h2
        have HAX := Lib.hid (fun w9 => tx_one w9 t HNX.out.1)
        have HKB : Hid (∀ w9 : World, Kept (fun _ => False) w9 (w9.alloc (.cells #[.string (strB t)] 9))) := Lib.hid fun w9 => (Kept.refl _ _).alloc _
        have hk0c : k = 0 ∨ ∃ (j : Nat) (g off : Nat) (s : List Nat), k = j + 1 ∧ A' = some ⟨g, off, none⟩ ∧ g < wr.heap.size ∧ B ≤ g ∧ wr.cell? ⟨g, off + j, none⟩ = some (.string (strB s)) ∧ tls s t = true := by
          rcases hgood with h | ⟨s3, h1, h2⟩
          · exact .inl h
          · by_cases h0 : k = 0
            · exact .inl h0
            · obtain ⟨g, off, e, hg, hc⟩ := HO.out.isAt.spot (by omega)
              exact .inr ⟨k - 1, g, off, s3, by omega, e, hg, HO.out.base g (by rw [e]; rfl), hc (k - 1) s3 h1, h2⟩
        have HREL : Hid (∀ (A3 : Option Addr) (c3 : Nat) (w4 w5 : World), RRA w4 m A C p s2 → Kept (Only m) wr w4 → OwnX w5 B A3 (k + 1) c3 (l ++ [t]) → Kept (fun b => A'.map (·.block) = some b) (w4.alloc (.cells #[.string (strB t)] 9)) w5 → RA1 w1 B m C A p p r n (.slice A3 (k + 1) c3) (.int .u64 ((k + 1 : Nat) : Int)) w5) := Lib.hid fun A3 c3 w4 w5 h1 h2 h3 h4 => by
          have hb := HO.out.base
          have hm1 : ¬ A'.map (·.block) = some m := fun e => by have := hb m e; omega
          have ho1 : Off (fun k => A'.map (·.block) = some k) A p := fun a ha h0 e => by have := hb _ e; have := HBLK.out a ha h0; omega
          refine ⟨k + 1, A3, c3, l ++ [t], s2, by omega, rfl, rfl, h3, (h1.keep (HKB.out w4) (fun e => e) (fun a _ _ e => e)).keep h4 hm1 ho1, ((HK.out.trans h2).trans' (HKB.out w4) (fun i h => h.elim)).trans' h4 (fun i h => .inr (by have := hb i h; rw [← HBE.out]; exact this)), ?_⟩
          rcases HNX.out.2 with ⟨r2, e1, e2⟩ | ⟨e1, -, e2⟩
          · exact .inl ⟨r2, e1, HUPN.out, e2, HRIS2.out r2 e1⟩
          · exact .inr ⟨e1, e2⟩
        clear hgood hlk
        rcases hk0c with h0 | ⟨j, g, off, s, hkj, rfl, hg, hgB, hcs, hts⟩
        · subst h0
          go_wp2_with (first
            | (go_at_call 35; (with_reducible refine (HT.out).mono ?_); rintro e w4 hy; obtain ⟨rfl, HR4, HK4⟩ := hy.at; have HO4 := Lib.hid (HO.out.keptGX HK4.out hmB); have HOX := Lib.hid (HO4.out.keep ((Below.refl w4.heap.size w4).alloc (Nat.le_refl _) (.cells #[.string (strB t)] 9))); have hbs : B ≤ (w4.alloc (.cells #[.string (strB t)] 9)).heap.size := (by rw [HBE.out]; exact Nat.le_trans hbs0 (Nat.le_trans HK4.out.size (HKB.out w4).size)); clear hy)
            | (refine wpList_append_tx rfl (.tmp 44) (.tmp 46) rfl B A' 0 cap' _ rfl HOX.out ⟨w4.heap.size, 0, none⟩ 1 1 [t] rfl rfl (HAX.out w4) (by omega) hbs ?_; intro A3 c3 w5 ho hg; have HO5 := Lib.hid ho; have HK5 : Hid (Kept (fun k => A'.map (·.block) = some k) (w4.alloc (.cells #[.string (strB t)] 9)) w5) := Lib.hid (Kept.of_grown hg); clear ho hg))
          go_roundw
          case rel => exact HREL.out A3 c3 w4 w5 HR4.out HK4.out HO5.out HK5.out
          case measure => simp [intOf]; omega
        · have hsub : (k : Int) - 1 = (j : Int) := by omega
          have hjk : (j : Int) < (k : Int) := by omega
          have hk1 : (0 : Int) < (k : Int) := by omega
          have hts' : Op.bytesLess (strB s).toList (strB t).toList = true := hts
          have hne : ¬ Only m g := fun e => by have e : g = m := e; omega
          have HGG := Lib.hid hg; have HCS := Lib.hid hcs; have HNE := Lib.hid hne
          clear hkj hts hg hcs hgB hne
          go_wp2_with (first
            | (go_at_call 35; (with_reducible refine (HT.out).mono ?_); rintro e w4 hy; obtain ⟨rfl, HR4, HK4⟩ := hy.at; have HO4 := Lib.hid (HO.out.keptGX HK4.out hmB); have HOX := Lib.hid (HO4.out.keep ((Below.refl w4.heap.size w4).alloc (Nat.le_refl _) (.cells #[.string (strB t)] 9))); have hbs : B ≤ (w4.alloc (.cells #[.string (strB t)] 9)).heap.size := (by rw [HBE.out]; exact Nat.le_trans hbs0 (Nat.le_trans HK4.out.size (HKB.out w4).size)); have hcs4 : w4.cell? ⟨g, off + j, none⟩ = some (.string (strB s)) := (HK4.out.cell (p := ⟨g, off + j, none⟩) HGG.out HNE.out).trans HCS.out; clear hy)
            | (refine wpList_append_tx rfl (.tmp 44) (.tmp 46) rfl B (some ⟨g, off, none⟩) k cap' _ rfl HOX.out ⟨w4.heap.size, 0, none⟩ 1 1 [t] rfl rfl (HAX.out w4) (by omega) hbs ?_; intro A3 c3 w5 ho hg; have HO5 := Lib.hid ho; have HK5 : Hid (Kept (fun k => (some ⟨g, off, none⟩ : Option Addr).map (·.block) = some k) (w4.alloc (.cells #[.string (strB t)] 9)) w5) := Lib.hid (Kept.of_grown hg); clear ho hg))
          go_roundw
          case rel => exact HREL.out A3 c3 w4 w5 HR4.out HK4.out HO5.out HK5.out
          case measure => simp [intOf]; omega
      · have hk0 : k ≠ 0 := fun e => hgood (.inl e)
        obtain ⟨j, hkj⟩ : ∃ j, k = j + 1 := ⟨k - 1, by omega⟩
        obtain ⟨s, hs⟩ : ∃ s, l[j]? = some s := ⟨_, List.getElem?_eq_getElem (by omega)⟩
        have hts : tls s t = false := by
          rcases h : tls s t with _ | _
          · rfl
          · exact (hgood (.inr ⟨s, by rw [show k - 1 = j by omega]; exact hs, h⟩)).elim
        have HNO : Hid (rTL p = none) := Lib.hid (rTL_none (rT_no1 (by
          rcases HNX.out.2 with ⟨r2, e1, e2⟩ | ⟨e1, -, e2⟩
          · exact rU_fall HUPN.out e2 (by omega) j (by omega) (s := s) (t := t) (by rw [List.getElem?_append_left (by omega)]; exact hs) (by rw [List.getElem?_append_right (by omega), hlk]; simp) hts
          · exact e2)))
        obtain ⟨g, off, rfl, hg, hc⟩ := HO.out.isAt.spot (by omega)
        have hcs := hc j s hs
        have hgB := HO.out.base g rfl
        have hsub : (k : Int) - 1 = (j : Int) := by omega
        have hjk : (j : Int) < (k : Int) := by omega
        have hk1 : (0 : Int) < (k : Int) := by omega
        have hts' : Op.bytesLess (strB s).toList (strB t).toList = false := hts
        have hne : ¬ Only m g := fun e => by have e : g = m := e; omega
        have HGG := Lib.hid hg; have HCS := Lib.hid hcs; have HNE := Lib.hid hne
        clear hkj hts hg hcs hgB hne hc hs hk0 hgood hlk
        go_wp2_with (go_at_call 35; (with_reducible refine (HT.out).mono ?_); rintro e w4 hy; obtain ⟨rfl, HR4, HK4⟩ := hy.at; have hcs4 : w4.cell? ⟨g, off + j, none⟩ = some (.string (strB s)) := (HK4.out.cell (p := ⟨g, off + j, none⟩) HGG.out HNE.out).trans HCS.out; clear hy)
        go_ret2
        exact HFAIL.out _ HNO.out (HK.out.trans HK4.out)
    · have hnlen : (p.length : Int) = (np : Int) := by have := hnp.out; omega
      rcases s' with _ | r'
      · have c1 : wr.cell? ⟨m, 1, none⟩ = some (.int .i64 (-1)) := c1
        have HNO : Hid (rTL p = none) := Lib.hid (rTL_none (rT_no1 (by
          rcases hcase with ⟨r2, h1, -⟩ | ⟨-, h2⟩
          · cases h1
          · exact h2)))
        have HI := Lib.hid (rintsNo_any m C A p none none none 0 0 (Lib.hid rfl) (Lib.hid rfl) (by omega) (.inl rfl) wr HR)
        clear hgo hcase
        by_cases hkn : k < n
        · go_wp2_with (go_at_call 49; refine (HI.out).mono ?_; rintro e w4 ⟨A4, n4, c4, s4, rfl, h1, h2, h3⟩; have c4' := h2.c1; have hne4 := atR_ne (p := p) h1; rw [hnlen] at hne4; have HK4 := Lib.hid (HK.out.trans h3); clear h1 h2 h3)
          go_ret2
          exact HFAIL.out _ HNO.out HK4.out
        · go_wp2_with (go_at_call 49; refine (HI.out).mono ?_; rintro e w4 ⟨A4, n4, c4, s4, rfl, h1, h2, h3⟩; have c4' := h2.c1; have hne4 := atR_ne (p := p) h1; rw [hnlen] at hne4; have HK4 := Lib.hid (HK.out.trans h3); clear h1 h2 h3)
          go_ret2
          exact HFAIL.out _ HNO.out HK4.out
      · obtain rfl : k = n := by
          by_cases h : k < n
          · exact (hgo ⟨h, r', rfl⟩).elim
          · omega
        obtain ⟨hup, hrun, hris⟩ : uP 4096 p = some (k, r) ∧ runS (tP 32) k r = some (l, r') ∧ rising l = true := by
          rcases hcase with ⟨r2, h1, h2⟩ | ⟨h1, -⟩
          · injection h1 with h1; subst h1; exact h2
          · cases h1
        have HRU := Lib.hid (rU_yes hup hrun hris)
        have HI := Lib.hid (refIntsRd_any m C A p r' wr HR)
        obtain ⟨z, hz, hzl⟩ := atR_pos HR.out
        rw [hz] at c1
        have hz0 : (0 : Int) ≤ (z : Int) := by omega
        clear hgo hcase hup hrun hris hz hzl
        rcases hri : riL r' with _ | xs
        · rw [hri] at HI
          have HNO := Lib.hid (rTL_no HRU.out hri)
          clear hri
          go_wp2_with (go_at_call 49; refine (HI.out).mono ?_; rintro e w4 ⟨A4, n4, c4, s4, rfl, h1, h2, h3⟩; have c4' := h2.c1; have hne4 := atR_ne (p := p) h1; rw [hnlen] at hne4; have HK4 := Lib.hid (HK.out.trans h3); clear h1 h2 h3)
          go_ret2
          exact HFAIL.out _ HNO.out HK4.out
        · rw [hri] at HI
          have HII := Lib.hid (riL_inv hri)
          clear hri
          have hxl := rI_len HII.out
          have HB4 : Hid (∀ w9 : World, Kept (Only m) w1 w9 → Below w.heap.size w w9) := Lib.hid fun w9 h2 => HB1.out.trans (h2.below (B := w.heap.size) (by rw [HSZ.out, HM.out]; omega) fun k hk => by have hk : k = m := hk; rw [hk, HM.out]; exact Nat.le_refl _)
          have hzb1 : ib.bytes * k ≤ 281474976710656 := by rw [hb2]; omega
          have hnm1 : k ≤ maxLen := by unfold maxLen; omega
          have HN1 : Hid (k = l.length) := Lib.hid HO.out.len
          have hnn : ((np : Int) != (np : Int)) = false := by simp
          go_upto_region 14 with (go_at_call 49; refine (HI.out).mono ?_; rintro e w4 ⟨⟨A2, n2, c2, rfl, h1⟩, h2, h3⟩; have HO2 := Lib.hid h1; have c4' : w4.cell? ⟨m, 1, none⟩ = some (.int .i64 (np : Int)) := (by have := h2.c1; rw [this]; have e : atR p (some []) = (np : Int) := (by show (p.length : Int) - (([] : List Nat).length : Int) = _; rw [List.length_nil]; omega); rw [e]); have HK4 := Lib.hid (HK.out.trans h3); have HO4 := Lib.hid (HO.out.keptGX h3 hmB); clear h1 h2 h3)
          obtain ⟨ub, hub⟩ : ∃ ub, ub = w4.heap.size := ⟨_, rfl⟩
          go_upto_region 15 with (refine wpList_make_full _ rfl (.tmp 58) (.tmp 58) 66 rfl w4.heap.size 4 ib (.bool false) 1 Try.underlying66 hib hb0 hb1 .i64 .i64 _ _ k rfl rfl rfl rfl hzb1 hnm1 (Nat.le_refl _) ?_; intro w5 own hgr; have HRB := Lib.hid (rowBo_zeros own); have HB5 : Hid (Below w4.heap.size w4 w5) := Lib.hid ((Below.refl _ w4).grown hgr (Nat.le_refl _) (by intro k hk; cases hk)); clear own hgr)
          rw [← hub]
          have HN2 : Hid (n2 = xs.length) := Lib.hid HO2.out.len
          have hn2 : n2 ≤ 4096 := by have := HN2.out; omega
          obtain ⟨B3, hB3⟩ : ∃ B3, B3 = w5.heap.size := ⟨_, rfl⟩
          have HST2 : Hid (RA2 w B ub B3 A' k cap' l A2 n2 c2 xs none 0 0 w5) := Lib.hid (by
            have h4 : ub < w5.heap.size := by rw [hub]; exact (Array.getElem?_eq_some_iff.1 HRB.out).1
            have h5 : Below w.heap.size w w4 := HB4.out _ HK4.out
            refine ⟨HO4.out.keep HB5.out, (HO2.out.more (by rw [HBE.out]; exact HK.out.size)).keep HB5.out, fun b hb => ?_, fun b hb => ?_, by rw [hub]; exact h5.size, by omega, ?_, ⟨World.ownsRow_nil _ _ _ 1, fun x hx => by cases hx⟩, h5.trans (HB5.out.mono h5.size), by omega, fun j x h => by omega⟩
            · have := HO4.out.ltX b hb; omega
            · have := HO2.out.ltI b hb; omega
            · rw [List.take_zero, usedL_nil, hub]; exact HRB.out)
          have HFAIL2 : Hid (∀ w9 : World, okT l xs = false → Below w.heap.size w w9 → RTRef w (rTL p) (.returned (.tuple #[.slice none 0 0, .bool false])) w9) := Lib.hid fun w9 h1 h2 => by
            rw [rTL_none (rT_no3 HRU.out HII.out h1)]; exact ⟨rfl, h2⟩
          clear HI HO HR HK HO2 HK4 HO4 HRB HB5 HB4 HFAIL hub hB3 c1 hz0 c4' hnn hzb1 hnm1
          go_wp2
          go_loopw [11, 12] (fun u v wr => ∃ (j : Nat) (A3 : Option Addr) (c3 : Nat), j ≤ n2 ∧ v = .int .i64 (j : Int) ∧ u = .slice A3 j c3 ∧ RA2 w B ub B3 A' k cap' l A2 n2 c2 xs A3 j c3 wr) (fun _ v _ => n2 - (intOf v).toNat)
          case atStart => exact ⟨0, none, 0, Nat.zero_le _, rfl, rfl, HST2.out⟩
          case round =>
            obtain ⟨j, A3, c3, hj, rfl, rfl, hra⟩ := hrel
            have HX := Lib.hid hra
            clear hra HST2
            by_cases hlt : j < n2
            · obtain ⟨x, hx⟩ : ∃ x, xs[j]? = some x := ⟨_, List.getElem?_eq_getElem (by have := HN2.out; omega)⟩
              obtain ⟨g2, o2, rfl, hg2, hcx⟩ := HX.out.own2.isAt.spot (by have := HN2.out; omega)
              have hc2 := hcx j x hx
              have HXK := Lib.hid hx
              have hoff2 := HX.out.off2 g2 rfl
              clear hx hcx
              by_cases hok : 0 ≤ x ∧ x < (k : Int)
              · obtain ⟨i, hi⟩ : ∃ i : Nat, x = (i : Int) := ⟨x.toNat, by omega⟩
                subst hi
                obtain ⟨hx0, hxn⟩ := hok
                have hin : i < k := by omega
                obtain ⟨t, ht⟩ : ∃ t, l[i]? = some t := ⟨_, List.getElem?_eq_getElem (by have := HN1.out; omega)⟩
                obtain ⟨g1, o1, rfl, hg1, hct⟩ := HX.out.own1.isAt.spot (by have := HN1.out; omega)
                have hc1 := hct i t ht
                have hoff1 := HX.out.off1 g1 rfl
                have hne1 : ¬ ub = g1 := by omega
                have hne1' : ¬ g1 = ub := by omega
                have hne2 : ¬ ub = g2 := by omega
                have hne2' : ¬ g2 = ub := by omega
                have HPT := Lib.hid (pickT_at ht)
                have fu := HX.out.used.fr i
                obtain ⟨u1, cu⟩ := HX.out.used.at i (by rw [usedL_len]; exact hin)
                have HTK : Hid (xs.take (j + 1) = xs.take j ++ [(i : Int)]) := Lib.hid (by rw [List.take_add_one, HXK.out]; rfl)
                have hk1 : Kept (fun b => b = ub) wr (wr.setCell ⟨ub, i, none⟩ (.bool true)) := (Kept.refl _ _).setCell _ _ (.inl rfl)
                obtain ⟨w6, hw6⟩ : ∃ w6, w6 = wr.setCell ⟨ub, i, none⟩ (.bool true) := ⟨_, rfl⟩
                rw [← hw6] at hk1
                have HK1 := Lib.hid hk1
                have HWT : Hid (WfT t) := Lib.hid (HX.out.own1.2 t (List.mem_of_getElem? ht))
                have HU6 : Hid (RowBo w6 ub (usedL k (xs.take (j + 1)))) := Lib.hid (by rw [HTK.out, usedL_snoc, hw6]; exact HX.out.used.set i true)
                have HO16 := Lib.hid (HX.out.own1.keptS hk1 (fun b hb => by have := HX.out.off1 b hb; omega))
                have HO26 := Lib.hid (HX.out.own2.keptSI hk1 (fun b hb => by have := HX.out.off2 b hb; omega))
                have HO36 := Lib.hid (HX.out.own3.keptS hk1 (fun b hb => by have := HX.out.own3.base b hb; have := HX.out.ubB; omega))
                have HBL6 : Hid (Below w.heap.size w w6) := Lib.hid (HX.out.below.trans (hk1.below (B := w.heap.size) HX.out.below.size fun b hb => by have hb : b = ub := hb; rw [hb]; exact HX.out.hub))
                have HSZ6 : Hid (B3 ≤ w6.heap.size) := Lib.hid (Nat.le_trans HX.out.size hk1.size)
                have HW6 : Hid (wr.setCell ⟨ub, i, none⟩ (.bool true) = w6) := Lib.hid hw6.symm
                have hc26 : w6.cell? ⟨g2, o2 + j, none⟩ = some (.int .i64 (i : Int)) := (hk1.cell (p := ⟨g2, o2 + j, none⟩) hg2 (fun e => by have e : g2 = ub := e; omega)).trans hc2
                have hc16 : w6.cell? ⟨g1, o1 + i, none⟩ = some (.string (strB t)) := (hk1.cell (p := ⟨g1, o1 + i, none⟩) hg1 (fun e => by have e : g1 = ub := e; omega)).trans hc1
                have HAX := Lib.hid (tx_one w6 t HWT.out)
                have HBX : Hid (Below w6.heap.size w6 (w6.alloc (.cells #[.string (strB t)] 9))) := Lib.hid ((Below.refl _ _).alloc (Nat.le_refl _) _)
                have HOX := Lib.hid (HO36.out.keep HBX.out)
                have hbs : B3 ≤ (w6.alloc (.cells #[.string (strB t)] 9)).heap.size := Nat.le_trans HSZ6.out HBX.out.size
                clear ht hct hw6 hk1 hg1 hg2
                go_upto_region 22 with fail
                rw [HW6.out]
                clear cu fu hne1 hne1' hne2 hne2' hc1 hc2
                go_wp2_with (refine wpList_append_tx rfl (.tmp 86) (.tmp 94) rfl B3 A3 j c3 _ rfl HOX.out ⟨w6.heap.size, 0, none⟩ 1 1 [t] rfl rfl HAX.out (by omega) hbs ?_; intro A5 c5 w7 ho hg; have HO7 := Lib.hid ho; have HK7 : Hid (Kept (fun b => A3.map (·.block) = some b) (w6.alloc (.cells #[.string (strB t)] 9)) w7) := Lib.hid (Kept.of_grown hg); clear ho hg)
                go_roundw
                case rel =>
                  have hb3 := HO36.out.base
                  have X := HX.out
                  have hubB := X.ubB
                  refine ⟨j + 1, A5, c5, by omega, by go_num, rfl, (HO16.out.keep HBX.out).keptS HK7.out (fun b hb h => ?_), (HO26.out.keep HBX.out).keptSI HK7.out (fun b hb h => ?_), X.off1, X.off2, X.hub, X.ubB, ?_, ?_, ?_, Nat.le_trans hbs HK7.out.size, ?_⟩
                  · have h1 := X.off1 b hb; have h2 := hb3 b h; omega
                  · have h1 := X.off2 b hb; have h2 := hb3 b h; omega
                  · exact (HU6.out.keep (Kept.of_below (S := fun _ => False) HBX.out) fun e => e).keep HK7.out fun h => by have h2 := hb3 ub h; omega
                  · rw [HTK.out, List.map_append, List.map_cons, List.map_nil, HPT.out]; exact HO7.out
                  · exact (HBL6.out.trans (HBX.out.mono HBL6.out.size)).trans (HK7.out.below (B := w.heap.size) (Nat.le_trans HBL6.out.size HBX.out.size) fun b h => by have h2 := hb3 b h; have := X.hub; omega)
                  · intro j2 y hj2 hy
                    by_cases e : j2 = j
                    · subst e; rw [HXK.out] at hy; injection hy with hy; subst hy; exact ⟨hx0, hxn⟩
                    · exact X.ok j2 y (by omega) hy
                case measure => simp [intOf]; omega
              · have HNO : Hid (okT l xs = false) := Lib.hid (okT_bad HXK.out (by rw [← HN1.out]; exact hok))
                by_cases hx0 : x < 0
                · clear hok
                  go_wp2
                  go_ret2
                  exact HFAIL2.out _ HNO.out HX.out.below
                · have hxn : (k : Int) ≤ x := by omega
                  clear hok
                  go_wp2
                  go_ret2
                  exact HFAIL2.out _ HNO.out HX.out.below
            · obtain rfl : j = n2 := by omega
              have hall : xs.take j = xs := List.take_of_length_le (by have := HN2.out; omega)
              have HRU2 : Hid (RowBo wr ub (usedL k xs)) := Lib.hid (by have := HX.out.used; rwa [hall] at this)
              have HO3 : Hid (OwnX wr B3 A3 j c3 (xs.map (pickT l))) := Lib.hid (by have := HX.out.own3; rwa [hall] at this)
              have HOK : Hid (okT l xs = !(usedL k xs).contains false) := Lib.hid (by
                rw [HN1.out]
                exact okT_end fun j2 x hj2 => by
                  have h9 := HX.out.ok j2 x (by have := (List.getElem?_eq_some_iff.1 hj2).1; have := HN2.out; omega) hj2
                  rw [HN1.out] at h9; exact h9)
              obtain ⟨wo, hwo⟩ : ∃ wo, wo = wr := ⟨_, rfl⟩
              subst hwo
              clear hall
              go_wp2
              go_loop [13] (fun v => ∃ i : Nat, i ≤ k ∧ v = .int .i64 (i : Int) ∧ ∀ b, b < i → (usedL k xs)[b]? = some true) (fun v => k - (intOf v).toNat)
              case atStart => exact ⟨0, Nat.zero_le _, rfl, fun b h => by omega⟩
              case round =>
                obtain ⟨i, hi, rfl, hus⟩ := hrel
                have HUS := Lib.hid hus
                clear hus
                by_cases hik : i < k
                · obtain ⟨b, hb⟩ : ∃ b, (usedL k xs)[i]? = some b := ⟨_, List.getElem?_eq_getElem (by rw [usedL_len]; exact hik)⟩
                  have HBI := Lib.hid hb
                  have hcell := HRU2.out.cell i b hb
                  clear hb
                  cases b
                  · have HNO : Hid (okT l xs = false) := Lib.hid (by
                      rw [HOK.out]
                      have : (usedL k xs).contains false = true := by simpa using List.mem_of_getElem? HBI.out
                      rw [this]; rfl)
                    go_wp2
                    go_ret2
                    exact HFAIL2.out _ HNO.out HX.out.below
                  · go_wp2
                    go_round
                    case rel => exact ⟨i + 1, by omega, by go_num, fun b hb => by
                      by_cases e : b = i
                      · subst e; exact HBI.out
                      · exact HUS.out b (by omega)⟩
                    case measure => simp [intOf]; omega
                · obtain rfl : i = k := by omega
                  have HYES : Hid (okT l xs = true) := Lib.hid (by
                    rw [HOK.out]
                    have : (usedL i xs).contains false = false := by
                      rw [List.contains_eq_any_beq, List.any_eq_false]
                      intro x hx
                      obtain ⟨b, hb⟩ := List.getElem?_of_mem hx
                      have h9 := HUS.out b (by have := (List.getElem?_eq_some_iff.1 hb).1; rwa [usedL_len] at this)
                      rw [hb] at h9; injection h9 with h9; subst h9; simp
                    rw [this]; rfl)
                  go_wp2
                  go_ret2
                  rw [rTL_some (rT_yes HRU.out HII.out HYES.out)]
                  exact ⟨⟨A3, j, c3, rfl, HO3.out.more (by have := HX.out.hub; have := HX.out.ubB; omega)⟩, HX.out.below⟩
end Go.Proofs.Ytlhaedcoompjpaa

set_option linter.unusedSimpArgs false
set_option linter.unusedVariables false
set_option maxRecDepth 100000
namespace Go.Proofs.Ytlhaedcoompjpaa
open Go.RowKit Go.WideShapes Col
set_option maxHeartbeats 2000000 in
theorem sameT_any (A B : Option Addr) (n c d : Nat) (l : List (List Nat)) (hn : Hid (n = l.length)) (hn9 : n ≤ 1000000) (W : World) (HA : Hid (TxAt W A l)) (HB : Hid (TxAt W B l)) :
    Calls Try.prog 23 #[.slice A n c, .slice B n d] W fun e w' => e = .returned (.bool true) ∧ Below W.heap.size W w' := by
  have hnn : ((n : Int) != (n : Int)) = false := by simp
  go_enter Try.func23, Try.ntmps23
  go_wp2
  go_loopw [5] (fun v wr => ∃ k : Nat, k ≤ n ∧ v = .int .i64 (k : Int) ∧ Below W.heap.size W wr) (fun v _ => n - (intOf v).toNat)
  case atStart => exact ⟨0, Nat.zero_le _, rfl, Below.refl _ _⟩
  case round =>
    obtain ⟨k, hk, rfl, hb⟩ := hrel
    have HBW := Lib.hid hb
    clear hb
    by_cases hlt : k < n
    · obtain ⟨x, hx⟩ : ∃ x, l[k]? = some x := ⟨l[k]'(by have := hn.out; omega), List.getElem?_eq_getElem _⟩
      obtain ⟨-, ga, oa, rfl, hga, hca⟩ := (HA.out.keep HBW.out) k x hx
      obtain ⟨-, gb, ob, rfl, hgb, hcb⟩ := (HB.out.keep HBW.out) k x hx
      have HGA := Lib.hid hga; have HGB := Lib.hid hgb; have HCA := Lib.hid hca; have HCB := Lib.hid hcb
      have hki : (k : Int) < (n : Int) := by omega
      have hxx : ((strB x).toList == (strB x).toList) = true := by simp
      clear hx hga hgb hca hcb
      go_upto_region 6 with fail
      refine wp_region_held_drew (S := fun w => Below wr.heap.size wr w) (by kernel_rfl) ((Below.refl _ _).drew) (fun hHeld => ?_)
      refine wpAnyH_take (i := 0) (v := .slice (some ⟨ga, oa, none⟩) n c) rfl (by kernel_rfl) (by kernel_rfl) (by kernel_rfl) (fun _ _ _ h => h) (Or.inl ⟨by rfl, fun _ _ => rfl⟩) hHeld ?_
      try dsimp only
      try simp only [Act.put, List.getElem_toArray, List.getElem_cons_zero, List.getElem_cons_succ, List.setIfInBounds_toArray, List.set_cons_zero, List.set_cons_succ]
      refine wpAnyH_take (i := 1) (v := .int .i64 (k : Int)) rfl (by kernel_rfl) (by kernel_rfl) (by kernel_rfl) (fun _ _ _ h => h) (Or.inl ⟨by rfl, fun _ _ => rfl⟩) hHeld ?_
      try dsimp only
      try simp only [Act.put, List.getElem_toArray, List.getElem_cons_zero, List.getElem_cons_succ, List.setIfInBounds_toArray, List.set_cons_zero, List.set_cons_succ]
      refine wpAnyH_take (i := 2) (v := .pointer (some ⟨ga, oa + k, none⟩)) rfl (by kernel_rfl) (by kernel_rfl) (by kernel_rfl) (fun _ _ _ h => h) (Or.inl ⟨by rfl, fun w _ => by first | (go_simp; done) | (go_simp; intro h; exfalso; omega)⟩) hHeld ?_
      try dsimp only
      try simp only [Act.put, List.getElem_toArray, List.getElem_cons_zero, List.getElem_cons_succ, List.setIfInBounds_toArray, List.set_cons_zero, List.set_cons_succ]
      refine wpAnyH_take (i := 3) (v := .string (strB x)) rfl (by kernel_rfl) (by kernel_rfl) (by kernel_rfl) (fun _ _ _ h => h) (Or.inl ⟨by rfl, fun w hw => by have hc : w.cell? ⟨ga, oa + k, none⟩ = some (.string (strB x)) := (hw.cell (p := ⟨ga, oa + k, none⟩) HGA.out).trans HCA.out; go_simp⟩) hHeld ?_
      try dsimp only
      try simp only [Act.put, List.getElem_toArray, List.getElem_cons_zero, List.getElem_cons_succ, List.setIfInBounds_toArray, List.set_cons_zero, List.set_cons_succ]
      refine wpAnyH_take (i := 4) (v := .slice (some ⟨gb, ob, none⟩) n d) rfl (by kernel_rfl) (by kernel_rfl) (by kernel_rfl) (fun _ _ _ h => h) (Or.inl ⟨by rfl, fun _ _ => rfl⟩) hHeld ?_
      try dsimp only
      try simp only [Act.put, List.getElem_toArray, List.getElem_cons_zero, List.getElem_cons_succ, List.setIfInBounds_toArray, List.set_cons_zero, List.set_cons_succ]
      refine wpAnyH_take (i := 5) (v := .int .i64 (k : Int)) rfl (by kernel_rfl) (by kernel_rfl) (by kernel_rfl) (fun _ _ _ h => h) (Or.inl ⟨by rfl, fun _ _ => rfl⟩) hHeld ?_
      try dsimp only
      try simp only [Act.put, List.getElem_toArray, List.getElem_cons_zero, List.getElem_cons_succ, List.setIfInBounds_toArray, List.set_cons_zero, List.set_cons_succ]
      refine wpAnyH_take (i := 6) (v := .pointer (some ⟨gb, ob + k, none⟩)) rfl (by kernel_rfl) (by kernel_rfl) (by kernel_rfl) (fun _ _ _ h => h) (Or.inl ⟨by rfl, fun w _ => by first | (go_simp; done) | (go_simp; intro h; exfalso; omega)⟩) hHeld ?_
      try dsimp only
      try simp only [Act.put, List.getElem_toArray, List.getElem_cons_zero, List.getElem_cons_succ, List.setIfInBounds_toArray, List.set_cons_zero, List.set_cons_succ]
      refine wpAnyH_take (i := 7) (v := .string (strB x)) rfl (by kernel_rfl) (by kernel_rfl) (by kernel_rfl) (fun _ _ _ h => h) (Or.inl ⟨by rfl, fun w hw => by have hc : w.cell? ⟨gb, ob + k, none⟩ = some (.string (strB x)) := (hw.cell (p := ⟨gb, ob + k, none⟩) HGB.out).trans HCB.out; go_simp⟩) hHeld ?_
      try dsimp only
      try simp only [Act.put, List.getElem_toArray, List.getElem_cons_zero, List.getElem_cons_succ, List.setIfInBounds_toArray, List.set_cons_zero, List.set_cons_succ]
      refine wpAnyH_ready (rs := [8]) (by kernel_rfl) (by simp) (AllReadyH.cons rfl (fun K hK => ?_) AllReadyH.nil)
      go_simp
      refine hK.out _ _ hHeld (fun hHeld => ?_)
      clear hK K
      try dsimp only
      try simp only [Act.put, List.getElem_toArray, List.getElem_cons_zero, List.getElem_cons_succ, List.setIfInBounds_toArray, List.set_cons_zero, List.set_cons_succ]
      refine wpAnyH_done (by kernel_rfl) ?_ _
      have HB9 := Lib.hid (below_to HBW.out hHeld)
      clear hHeld
      go_wp2
      go_roundw
      case rel => exact ⟨k + 1, by omega, by go_num, HB9.out⟩
      case measure => simp [intOf]; omega
    · obtain rfl : k = n := by omega
      go_wp2
      go_ret
      exact ⟨rfl, HBW.out⟩

def OkErr (b : Bool) (E : Int) : Prop := b = true ∧ E = 0 ∨ b = false ∧ E = 3
set_option maxHeartbeats 32000000 in
theorem columnReads_walk (A : Option Addr) (C np : Nat) (hnp : np ≤ 2000) (E1 E2 E3 : Int) (b1 b2 b3 : Bool) (h1 : OkErr b1 E1) (h2 : OkErr b2 E2) (h3 : OkErr b3 E3) (l1 : List Int) (l2 : List (List Nat)) (l3 : List Nat)
    (s1 : l1.length ≤ 1000000) (s2 : l2.length ≤ 1000000) (s3 : l3.length ≤ 1000000) (W : World)
    (I1 : Hid (∀ w : World, Below W.heap.size W w → Calls Try.prog 14 #[.slice A np C] w fun e w' => ∃ (A' : Option Addr) (n' c' : Nat), e = .returned (.tuple #[.slice A' n' c', .int .i64 E1]) ∧ n' = l1.length ∧ IsAt w' A' l1 ∧ Below w.heap.size w w'))
    (J1 : Hid (∀ w : World, Below W.heap.size W w → Calls Try.prog 17 #[.slice A np C] w fun e w' => ∃ (A' : Option Addr) (n' c' : Nat), e = .returned (.tuple #[.slice A' n' c', .bool b1]) ∧ n' = l1.length ∧ IsAt w' A' l1 ∧ Below w.heap.size w w'))
    (I2 : Hid (∀ w : World, Below W.heap.size W w → Calls Try.prog 18 #[.slice A np C] w fun e w' => ∃ (A' : Option Addr) (n' c' : Nat), e = .returned (.tuple #[.slice A' n' c', .int .i64 E2]) ∧ n' = l2.length ∧ TxAt w' A' l2 ∧ Below w.heap.size w w'))
    (J2 : Hid (∀ w : World, Below W.heap.size W w → Calls Try.prog 19 #[.slice A np C] w fun e w' => ∃ (A' : Option Addr) (n' c' : Nat), e = .returned (.tuple #[.slice A' n' c', .bool b2]) ∧ n' = l2.length ∧ TxAt w' A' l2 ∧ Below w.heap.size w w'))
    (I3 : Hid (∀ w : World, Below W.heap.size W w → Calls Try.prog 20 #[.slice A np C] w fun e w' => ∃ (A' : Option Addr) (n' c' : Nat), e = .returned (.tuple #[.slice A' n' c', .int .i64 E3]) ∧ n' = l3.length ∧ FlAt w' A' l3 ∧ Below w.heap.size w w'))
    (J3 : Hid (∀ w : World, Below W.heap.size W w → Calls Try.prog 21 #[.slice A np C] w fun e w' => ∃ (A' : Option Addr) (n' c' : Nat), e = .returned (.tuple #[.slice A' n' c', .bool b3]) ∧ n' = l3.length ∧ FlAt w' A' l3 ∧ Below w.heap.size w w')) :
    Calls Try.prog 4 #[.slice A np C] W fun e w' => e = .returned (.bool true) ∧ Below W.heap.size W w' := by
  have S1 := Lib.hid s1; have S2 := Lib.hid s2; have S3 := Lib.hid s3
  clear s1 s2 s3
  rcases h3 with ⟨rfl, rfl⟩ | ⟨rfl, rfl⟩
  · rcases h1 with ⟨rfl, rfl⟩ | ⟨rfl, rfl⟩ <;> rcases h2 with ⟨rfl, rfl⟩ | ⟨rfl, rfl⟩
    all_goals
      go_enter Try.func4, Try.ntmps4
      go_upto_region 11 with (first
        | (go_at_call 10; refine (awakeC_any _).mono ?_; rintro e w1 ⟨rfl, hb⟩; have B0 := Lib.hid hb; clear hb)
        | (go_at_call 14; refine (I1.out _ B0.out).mono ?_; rintro e w2 ⟨A1, m1, c1, rfl, hl, ha, hb⟩; have L1 := Lib.hid hl; have T1 := Lib.hid ha; have K1 := Lib.hid hb; have B1 := Lib.hid (below_to B0.out hb); clear hl ha hb)
        | (go_at_call 17; refine (J1.out _ B1.out).mono ?_; rintro e w3 ⟨A2, m2, c2, rfl, hl, ha, hb⟩; have L2 := Lib.hid hl; have T2 := Lib.hid ha; have K2 := Lib.hid hb; have B2 := Lib.hid (below_to B1.out hb); clear hl ha hb)
        | (go_at_call 18; refine (I2.out _ B2.out).mono ?_; rintro e w4 ⟨A3, m3, c3, rfl, hl, ha, hb⟩; have L3 := Lib.hid hl; have T3 := Lib.hid ha; have K3 := Lib.hid hb; have B3 := Lib.hid (below_to B2.out hb); clear hl ha hb)
        | (go_at_call 19; refine (J2.out _ B3.out).mono ?_; rintro e w5 ⟨A4, m4, c4, rfl, hl, ha, hb⟩; have L4 := Lib.hid hl; have T4 := Lib.hid ha; have K4 := Lib.hid hb; have B4 := Lib.hid (below_to B3.out hb); clear hl ha hb)
        | (go_at_call 20; refine (I3.out _ B4.out).mono ?_; rintro e w6 ⟨A5, m5, c5, rfl, hl, ha, hb⟩; have L5 := Lib.hid hl; have T5 := Lib.hid ha; have K5 := Lib.hid hb; have B5 := Lib.hid (below_to B4.out hb); clear hl ha hb)
        | (go_at_call 21; refine (J3.out _ B5.out).mono ?_; rintro e w7 ⟨A6, m6, c6, rfl, hl, ha, hb⟩; have L6 := Lib.hid hl; have T6 := Lib.hid ha; have K6 := Lib.hid hb; have B6 := Lib.hid (below_to B5.out hb); clear hl ha hb))
      have U1 := Lib.hid (T1.out.keep (below_to (below_to (below_to (below_to (K2.out) K3.out) K4.out) K5.out) K6.out))
      have U2 := Lib.hid (T2.out.keep (below_to (below_to (below_to (K3.out) K4.out) K5.out) K6.out))
      have U3 := Lib.hid (T3.out.keep (below_to (below_to (K4.out) K5.out) K6.out))
      have U4 := Lib.hid (T4.out.keep (below_to (K5.out) K6.out))
      have U5 := Lib.hid (T5.out.keep (K6.out))
      have U6 := T6
      have hm1 : m1 ≤ 1000000 := by rw [L1.out]; exact S1.out
      have hm3 : m3 ≤ 1000000 := by rw [L3.out]; exact S2.out
      have hm5 : m5 ≤ 1000000 := by rw [L5.out]; exact S3.out
      obtain rfl : m2 = m1 := L2.out.trans L1.out.symm
      obtain rfl : m4 = m3 := L4.out.trans L3.out.symm
      obtain rfl : m6 = m5 := L6.out.trans L5.out.symm
      clear L2 L4 L6 T1 T2 T3 T4 T5 T6 K1 K2 K3 K4 K5 K6 B0 B1 B2 B3 B4 B5
      have hnn : ((m6 : Int) != (m6 : Int)) = false := by simp
      obtain ⟨w0, hw0⟩ : ∃ w0, w0 = w7 := ⟨w7, rfl⟩
      subst hw0
      go_wp2
      go_loopw [15] (fun v wk => ∃ k : Nat, k ≤ m6 ∧ v = .int .i64 (k : Int) ∧ Below w0.heap.size w0 wk) (fun v _ => m6 - (intOf v).toNat)
      case atStart => exact ⟨0, Nat.zero_le _, rfl, Below.refl _ _⟩
      case round =>
        obtain ⟨k, hk, rfl, hbk⟩ := hrel
        have HBK := Lib.hid hbk
        clear hbk
        by_cases hlt : k < m6
        · obtain ⟨x, hx⟩ : ∃ x, l3[k]? = some x := ⟨l3[k]'(by have := L5.out; omega), List.getElem?_eq_getElem _⟩
          obtain ⟨hx64, ga, oa, rfl, hga, hca⟩ := (U5.out.keep HBK.out) k x hx
          obtain ⟨-, gb, ob, rfl, hgb, hcb⟩ := (U6.out.keep HBK.out) k x hx
          have HGA := Lib.hid hga; have HGB := Lib.hid hgb; have HCA := Lib.hid hca; have HCB := Lib.hid hcb
          have hki : (k : Int) < (m6 : Int) := by omega
          have HSM := Lib.hid fun w => refSame_any x x hx64 hx64 w
          have hcc : decide (Fl.canon x = Fl.canon x) = true := by simp
          clear hx hga hgb hca hcb
          go_upto_region 17 with fail
          refine wp_region_held_drew (S := fun w => Below wr.heap.size wr w) (by kernel_rfl) ((Below.refl _ _).drew) (fun hHeld => ?_)
          refine wpAnyH_take (i := 0) (v := .slice (some ⟨ga, oa, none⟩) m6 c5) rfl (by kernel_rfl) (by kernel_rfl) (by kernel_rfl) (fun _ _ _ h => h) (Or.inl ⟨by rfl, fun _ _ => rfl⟩) hHeld ?_
          try dsimp only
          try simp only [Act.put, List.getElem_toArray, List.getElem_cons_zero, List.getElem_cons_succ, List.setIfInBounds_toArray, List.set_cons_zero, List.set_cons_succ]
          refine wpAnyH_take (i := 1) (v := .int .i64 (k : Int)) rfl (by kernel_rfl) (by kernel_rfl) (by kernel_rfl) (fun _ _ _ h => h) (Or.inl ⟨by rfl, fun _ _ => rfl⟩) hHeld ?_
          try dsimp only
          try simp only [Act.put, List.getElem_toArray, List.getElem_cons_zero, List.getElem_cons_succ, List.setIfInBounds_toArray, List.set_cons_zero, List.set_cons_succ]
          refine wpAnyH_take (i := 2) (v := .pointer (some ⟨ga, oa + k, none⟩)) rfl (by kernel_rfl) (by kernel_rfl) (by kernel_rfl) (fun _ _ _ h => h) (Or.inl ⟨by rfl, fun w _ => by first | (go_simp; done) | (go_simp; intro h; exfalso; omega)⟩) hHeld ?_
          try dsimp only
          try simp only [Act.put, List.getElem_toArray, List.getElem_cons_zero, List.getElem_cons_succ, List.setIfInBounds_toArray, List.set_cons_zero, List.set_cons_succ]
          refine wpAnyH_take (i := 3) (v := .float .f64 x) rfl (by kernel_rfl) (by kernel_rfl) (by kernel_rfl) (fun _ _ _ h => h) (Or.inl ⟨by rfl, fun w hw => by have hc : w.cell? ⟨ga, oa + k, none⟩ = some (.float .f64 x) := (hw.cell (p := ⟨ga, oa + k, none⟩) HGA.out).trans HCA.out; go_simp⟩) hHeld ?_
          try dsimp only
          try simp only [Act.put, List.getElem_toArray, List.getElem_cons_zero, List.getElem_cons_succ, List.setIfInBounds_toArray, List.set_cons_zero, List.set_cons_succ]
          refine wpAnyH_take (i := 4) (v := .slice (some ⟨gb, ob, none⟩) m6 c6) rfl (by kernel_rfl) (by kernel_rfl) (by kernel_rfl) (fun _ _ _ h => h) (Or.inl ⟨by rfl, fun _ _ => rfl⟩) hHeld ?_
          try dsimp only
          try simp only [Act.put, List.getElem_toArray, List.getElem_cons_zero, List.getElem_cons_succ, List.setIfInBounds_toArray, List.set_cons_zero, List.set_cons_succ]
          refine wpAnyH_take (i := 5) (v := .int .i64 (k : Int)) rfl (by kernel_rfl) (by kernel_rfl) (by kernel_rfl) (fun _ _ _ h => h) (Or.inl ⟨by rfl, fun _ _ => rfl⟩) hHeld ?_
          try dsimp only
          try simp only [Act.put, List.getElem_toArray, List.getElem_cons_zero, List.getElem_cons_succ, List.setIfInBounds_toArray, List.set_cons_zero, List.set_cons_succ]
          refine wpAnyH_take (i := 6) (v := .pointer (some ⟨gb, ob + k, none⟩)) rfl (by kernel_rfl) (by kernel_rfl) (by kernel_rfl) (fun _ _ _ h => h) (Or.inl ⟨by rfl, fun w _ => by first | (go_simp; done) | (go_simp; intro h; exfalso; omega)⟩) hHeld ?_
          try dsimp only
          try simp only [Act.put, List.getElem_toArray, List.getElem_cons_zero, List.getElem_cons_succ, List.setIfInBounds_toArray, List.set_cons_zero, List.set_cons_succ]
          refine wpAnyH_take (i := 7) (v := .float .f64 x) rfl (by kernel_rfl) (by kernel_rfl) (by kernel_rfl) (fun _ _ _ h => h) (Or.inl ⟨by rfl, fun w hw => by have hc : w.cell? ⟨gb, ob + k, none⟩ = some (.float .f64 x) := (hw.cell (p := ⟨gb, ob + k, none⟩) HGB.out).trans HCB.out; go_simp⟩) hHeld ?_
          try dsimp only
          try simp only [Act.put, List.getElem_toArray, List.getElem_cons_zero, List.getElem_cons_succ, List.setIfInBounds_toArray, List.set_cons_zero, List.set_cons_succ]
          refine wpAnyH_ready (rs := [8]) (by kernel_rfl) (by simp) (AllReadyH.cons rfl (fun K hK => ?_) AllReadyH.nil)
          go_simp
          refine (HSM.out _).mono ?_
          rintro e w9 ⟨rfl, rfl⟩
          rw [hcc]
          refine hK.out _ _ hHeld (fun hHeld => ?_)
          clear hK K
          try dsimp only
          try simp only [Act.put, List.getElem_toArray, List.getElem_cons_zero, List.getElem_cons_succ, List.setIfInBounds_toArray, List.set_cons_zero, List.set_cons_succ]
          refine wpAnyH_take (i := 9) (v := .bool false) rfl (by kernel_rfl) (by kernel_rfl) (by kernel_rfl) (fun _ _ _ h => h) (Or.inl ⟨by rfl, fun w _ => by go_simp⟩) hHeld ?_
          try dsimp only
          try simp only [Act.put, List.getElem_toArray, List.getElem_cons_zero, List.getElem_cons_succ, List.setIfInBounds_toArray, List.set_cons_zero, List.set_cons_succ]
          refine wpAnyH_done (by kernel_rfl) ?_ _
          have HB9 := Lib.hid (below_to HBK.out hHeld)
          clear hHeld
          go_wp2
          go_roundw
          case rel => exact ⟨k + 1, by omega, by go_num, HB9.out⟩
          case measure => simp [intOf]; omega
        · obtain rfl : k = m6 := by omega
          have BX := Lib.hid (below_to B6.out HBK.out)
          have V1 := Lib.hid (U1.out.keep HBK.out); have V2 := Lib.hid (U2.out.keep HBK.out)
          have V3 := Lib.hid (U3.out.keep HBK.out); have V4 := Lib.hid (U4.out.keep HBK.out)
          go_wp2_with (first
            | (go_at_call 16; refine (sameI_any A1 A2 m2 c1 c2 l1 L1 hm1 _ V1 V2).mono ?_; rintro e w8 ⟨rfl, hb⟩; have X1 := Lib.hid hb; clear hb)
            | (go_at_call 23; refine (sameT_any A3 A4 m4 c3 c4 l2 L3 hm3 _ (Lib.hid (V3.out.keep X1.out)) (Lib.hid (V4.out.keep X1.out))).mono ?_; rintro e w9 ⟨rfl, hb⟩; have X2 := Lib.hid hb; clear hb))
          go_ret
          exact ⟨rfl, below_to (below_to BX.out X1.out) X2.out⟩
  · rcases h1 with ⟨rfl, rfl⟩ | ⟨rfl, rfl⟩ <;> rcases h2 with ⟨rfl, rfl⟩ | ⟨rfl, rfl⟩
    all_goals
      go_enter Try.func4, Try.ntmps4
      go_upto_region 11 with (first
        | (go_at_call 10; refine (awakeC_any _).mono ?_; rintro e w1 ⟨rfl, hb⟩; have B0 := Lib.hid hb; clear hb)
        | (go_at_call 14; refine (I1.out _ B0.out).mono ?_; rintro e w2 ⟨A1, m1, c1, rfl, hl, ha, hb⟩; have L1 := Lib.hid hl; have T1 := Lib.hid ha; have K1 := Lib.hid hb; have B1 := Lib.hid (below_to B0.out hb); clear hl ha hb)
        | (go_at_call 17; refine (J1.out _ B1.out).mono ?_; rintro e w3 ⟨A2, m2, c2, rfl, hl, ha, hb⟩; have L2 := Lib.hid hl; have T2 := Lib.hid ha; have K2 := Lib.hid hb; have B2 := Lib.hid (below_to B1.out hb); clear hl ha hb)
        | (go_at_call 18; refine (I2.out _ B2.out).mono ?_; rintro e w4 ⟨A3, m3, c3, rfl, hl, ha, hb⟩; have L3 := Lib.hid hl; have T3 := Lib.hid ha; have K3 := Lib.hid hb; have B3 := Lib.hid (below_to B2.out hb); clear hl ha hb)
        | (go_at_call 19; refine (J2.out _ B3.out).mono ?_; rintro e w5 ⟨A4, m4, c4, rfl, hl, ha, hb⟩; have L4 := Lib.hid hl; have T4 := Lib.hid ha; have K4 := Lib.hid hb; have B4 := Lib.hid (below_to B3.out hb); clear hl ha hb)
        | (go_at_call 20; refine (I3.out _ B4.out).mono ?_; rintro e w6 ⟨A5, m5, c5, rfl, hl, ha, hb⟩; have L5 := Lib.hid hl; have T5 := Lib.hid ha; have K5 := Lib.hid hb; have B5 := Lib.hid (below_to B4.out hb); clear hl ha hb)
        | (go_at_call 21; refine (J3.out _ B5.out).mono ?_; rintro e w7 ⟨A6, m6, c6, rfl, hl, ha, hb⟩; have L6 := Lib.hid hl; have T6 := Lib.hid ha; have K6 := Lib.hid hb; have B6 := Lib.hid (below_to B5.out hb); clear hl ha hb))
      have U1 := Lib.hid (T1.out.keep (below_to (below_to (below_to (below_to (K2.out) K3.out) K4.out) K5.out) K6.out))
      have U2 := Lib.hid (T2.out.keep (below_to (below_to (below_to (K3.out) K4.out) K5.out) K6.out))
      have U3 := Lib.hid (T3.out.keep (below_to (below_to (K4.out) K5.out) K6.out))
      have U4 := Lib.hid (T4.out.keep (below_to (K5.out) K6.out))
      have U5 := Lib.hid (T5.out.keep (K6.out))
      have U6 := T6
      have hm1 : m1 ≤ 1000000 := by rw [L1.out]; exact S1.out
      have hm3 : m3 ≤ 1000000 := by rw [L3.out]; exact S2.out
      have hm5 : m5 ≤ 1000000 := by rw [L5.out]; exact S3.out
      obtain rfl : m2 = m1 := L2.out.trans L1.out.symm
      obtain rfl : m4 = m3 := L4.out.trans L3.out.symm
      obtain rfl : m6 = m5 := L6.out.trans L5.out.symm
      clear L2 L4 L6 T1 T2 T3 T4 T5 T6 K1 K2 K3 K4 K5 K6 B0 B1 B2 B3 B4 B5
      have BX := B6
      have V1 := U1; have V2 := U2; have V3 := U3; have V4 := U4
      go_wp2_with (first
        | (go_at_call 16; refine (sameI_any A1 A2 m2 c1 c2 l1 L1 hm1 _ V1 V2).mono ?_; rintro e w8 ⟨rfl, hb⟩; have X1 := Lib.hid hb; clear hb)
        | (go_at_call 23; refine (sameT_any A3 A4 m4 c3 c4 l2 L3 hm3 _ (Lib.hid (V3.out.keep X1.out)) (Lib.hid (V4.out.keep X1.out))).mono ?_; rintro e w9 ⟨rfl, hb⟩; have X2 := Lib.hid hb; clear hb))
      go_ret
      exact ⟨rfl, below_to (below_to BX.out X1.out) X2.out⟩
end Go.Proofs.Ytlhaedcoompjpaa
