/-
  Layer ledger: ledger.Read of any bytes.
-/
import Derived.Test.YtbimfopbilcdgaaDoorLraK
import Derived.Test.YtbimfopbilcdgaaDoorGoK
import Derived.Test.YtbimfopbilcdgaaDoorGyK
set_option linter.unusedSimpArgs false
set_option linter.unusedVariables false
set_option maxRecDepth 8000
namespace Go.Proofs.YtbimfopbilcdgaaDoor
open Go.RowKit Go.WideShapes Col

theorem four_valL : ∀ (l : List Nat), l.length = 4 → (∀ x ∈ l, x < 256) → Pg.four (Pg.val l) = l
  | [a, b, c, d], _, h => by
    have h1 := h a (by simp); have h2 := h b (by simp); have h3 := h c (by simp); have h4 := h d (by simp)
    unfold Pg.four Pg.val Pg.val Pg.val Pg.val Pg.val
    have e1 : (a + 256 * (b + 256 * (c + 256 * (d + 256 * 0)))) % 256 = a := by omega
    have e2 : (a + 256 * (b + 256 * (c + 256 * (d + 256 * 0)))) / 256 % 256 = b := by omega
    have e3 : (a + 256 * (b + 256 * (c + 256 * (d + 256 * 0)))) / 65536 % 256 = c := by omega
    have e4 : (a + 256 * (b + 256 * (c + 256 * (d + 256 * 0)))) / 16777216 % 256 = d := by omega
    rw [e1, e2, e3, e4]
theorem errAt_zero (l : List Nat) : Pg.errAt l 0 = Pg.errOf l := by
  unfold Pg.errAt
  rw [if_neg (by omega)]; rfl
theorem one_err (l : List Nat) (kind : Nat) (h : Pg.oneErr l kind ≠ 0) : Pg.oneErr l kind = 3 ∨ Pg.oneErr l kind = 4 := by
  have h1 : Pg.errOf l = 0 ∨ Pg.errOf l = 3 ∨ Pg.errOf l = 4 := by
    unfold Pg.errOf
    split
    · exact .inr (.inl rfl)
    · split
      · exact .inr (.inl rfl)
      · split
        · exact .inr (.inl rfl)
        · split
          · exact .inl rfl
          · exact .inr (.inr rfl)
  unfold Pg.oneErr at h ⊢
  rw [errAt_zero] at h ⊢
  split
  · rcases h1 with h1 | h1 | h1
    · rename_i h2; exact absurd h1 h2
    · exact .inl h1
    · exact .inr h1
  · rename_i h2
    rw [if_neg h2] at h
    split
    · rename_i h3; rw [if_pos h3] at h; exact absurd rfl h
    · exact .inl rfl
/-- A page that is one has just the bytes that are laid of it. -/
theorem one_lay (l : List Nat) (kind : Nat) (hl : ∀ x ∈ l, x < 256) (h : Pg.oneErr l kind = 0) : l = Pg.lay kind (Pg.oneBody l kind) := by
  have hb : Pg.oneBody l kind = Pg.bodyAt l 0 := if_pos h
  rw [hb]
  unfold Pg.oneErr at h
  split at h
  · rename_i h2; exact absurd h h2
  rename_i h2
  have h2 : Pg.errAt l 0 = 0 := by simpa using h2
  split at h
  · rename_i h3
    obtain ⟨hk, he⟩ := h3
    have e0 : (0 : Int).toNat = 0 := rfl
    unfold Pg.kindAt at hk
    rw [if_pos h2, e0, List.drop_zero] at hk
    unfold Pg.endAt at he
    rw [if_pos h2, e0, List.drop_zero] at he
    unfold Pg.bodyAt
    rw [if_pos h2, e0, List.drop_zero]
    rw [errAt_zero] at h2
    unfold Pg.errOf at h2
    split at h2
    · cases h2
    split at h2
    · cases h2
    split at h2
    · cases h2
    split at h2
    · rename_i h9 hsz hlen hsum
      obtain ⟨n, hn⟩ : ∃ n, n = Pg.sz l := ⟨_, rfl⟩
      rw [← hn] at he hsum hlen ⊢
      have hll : l.length = n + 9 := by omega
      have hbl : ((l.drop 5).take n).length = n := by rw [List.length_take, List.length_drop]; omega
      have h4 : Pg.four n = l.take 4 := by
        rw [hn]; unfold Pg.sz
        exact four_valL _ (by rw [List.length_take]; omega) (fun x hx => hl x (List.mem_of_mem_take hx))
      have hfr : Pg.front kind ((l.drop 5).take n) = l.take (5 + n) := by
        unfold Pg.front
        rw [hbl, h4, show 5 + n = 4 + (n + 1) by omega, List.take_add]
        congr 1
        have h5 : l.drop 4 = kind :: l.drop 5 := by
          rw [List.drop_eq_getElem_cons (by omega)]
          congr 1
          rw [← hk, List.getD_eq_getElem?_getD, List.getElem?_eq_getElem (by omega)]; rfl
        rw [h5, List.take_succ_cons]
      unfold Pg.lay
      rw [hfr, ← hsum]
      have hd : (l.drop (5 + n)).take 4 = l.drop (5 + n) := List.take_of_length_le (by rw [List.length_drop]; omega)
      rw [hd, four_valL _ (by rw [List.length_drop]; omega) (fun x hx => hl x (List.mem_of_mem_drop hx)), List.take_append_drop]
    · cases h2
  · cases h
theorem oneBody_lt (l : List Nat) (kind : Nat) (hl : ∀ x ∈ l, x < 256) : (∀ x ∈ Pg.oneBody l kind, x < 256) ∧ (Pg.oneBody l kind).length ≤ l.length := by
  unfold Pg.oneBody
  split
  · unfold Pg.bodyAt
    split
    · refine ⟨fun x hx => hl x (List.mem_of_mem_drop (List.mem_of_mem_drop (List.mem_of_mem_take hx))), ?_⟩
      rw [List.length_take, List.length_drop, List.length_drop]; omega
    · exact ⟨(fun x hx => by cases hx), Nat.zero_le _⟩
  · exact ⟨(fun x hx => by cases hx), Nat.zero_le _⟩
/-- How Read ends. -/
def LRet (P : List Nat) (w : World) (e : Ending) (w' : World) : Prop :=
  (∃ c : Nat, (c = 3 ∨ c = 4) ∧ e = .returned (.tuple #[.slice none 0 0, .int .i64 (c : Int)]) ∧ Below w.heap.size w w') ∨
  (∃ A n cap l, e = .returned (.tuple #[.slice A n cap, .int .i64 0]) ∧ OwnCh w' 0 A n cap l ∧ n ≤ cap ∧ cap ≤ maxLen ∧ (A = none → cap = 0) ∧ (∀ c ∈ l, ChgR c) ∧ P = Pg.lay 108 (ub l.length ++ chsB l) ∧ n ≤ 700 ∧ Below w.heap.size w w')
set_option maxHeartbeats 4000000 in
theorem ledRead_any (A : Option Addr) (N cap : Nat) (P : List Nat) (hN : Hid (N = P.length)) (hP : N ≤ 2000) (hc : N ≤ cap) (hcm : cap ≤ maxLen) (w : World) (HA : Hid (ByAt w A P)) (HG : Hid (HalvesAt w)) :
    Calls Tryd.prog 5 #[.slice A N cap] w (LRet P w) := by
  have hlt : ∀ x ∈ P, x < 256 := HA.out.lt
  have HO := Lib.hid (one_any A P N cap 108 hN hc hcm w HA HG)
  have hE := one_err P 108
  have hbody := oneBody_lt P 108 hlt
  by_cases he : Pg.oneErr P 108 = 0
  · have HOP := Lib.hid (one_lay P 108 hlt he)
    have HOY : Hid (Calls Tryd.prog 10 #[.slice A N cap, .int .u8 108] w fun e w' => ∃ A6 m C6, e = .returned (.tuple #[.slice A6 m C6, .int .i64 0]) ∧ m = (Pg.oneBody P 108).length ∧ ByAt w' A6 (Pg.oneBody P 108) ∧ m ≤ C6 ∧ C6 ≤ maxLen ∧ Below w.heap.size w w') := Lib.hid (HO.out.mono fun e w' ⟨A6, C6, h1, h2, h3, h4, h5⟩ => ⟨A6, _, C6, by rw [h1, he]; rfl, rfl, h2, h3, h4, h5⟩)
    have hq2 : (Pg.oneBody P 108).length ≤ 2000 := by have := hN.out; omega
    generalize Pg.oneBody P 108 = q at *
    clear HO hE he
    have HBC : Hid (∀ l, bodyP q = some (l, []) → (∀ c ∈ l, ChgR c) ∧ q = ub l.length ++ chsB l ∧ l.length ≤ 700) := Lib.hid fun l hb => by
      obtain ⟨h1, h2⟩ := bodyP_canon hbody.1 hb
      rw [List.append_nil] at h2
      refine ⟨h1, h2, ?_⟩
      have h3 : 3 * l.length ≤ (chsB l).length := by
        clear h1 h2 hb
        unfold chsB
        induction l with
        | nil => simp
        | cons c r ih => rw [List.flatMap_cons, List.length_append, List.length_cons]; have := chB_len c; omega
      rw [h2, List.length_append] at hq2
      omega
    clear hbody hlt
    go_enter Tryd.func5, Tryd.ntmps5
    go_upto_region 5 with (go_at_call 10; (with_reducible refine (HOY.out).mono ?_); rintro e w1 ⟨A6, m, C6, rfl, h1, h2, h3, h4, h5⟩; have HM := Lib.hid h1; have HBY := Lib.hid h2; have hC6 := h3; have hM6 := h4; have HB1 := Lib.hid h5; clear h1 h2 h3 h4 h5)
    obtain ⟨w2, hw2⟩ : ∃ w2, w2 = w1.alloc (.cells #[.slice none 0 0] 24) := ⟨_, rfl⟩
    obtain ⟨bl, hbl⟩ : ∃ bl, bl = w1.heap.size := ⟨_, rfl⟩
    rw [← hw2, ← hbl]
    have hb2 : Below w1.heap.size w1 w2 := by rw [hw2]; exact (Below.refl _ _).alloc (Nat.le_refl _) _
    have HBW := Lib.hid (HB1.out.trans (hb2.mono HB1.out.size))
    have HL2 : Hid (w2.heap[bl]? = some (.cells #[.slice none 0 0] 24 (0, 0))) := Lib.hid (by rw [hw2, hbl]; show (w1.heap.push _)[w1.heap.size]? = _; simp)
    have hblw : bl < w2.heap.size := (Array.getElem?_eq_some_iff.1 HL2.out).1
    have HBL : Hid (w.heap.size ≤ bl) := Lib.hid (by rw [hbl]; exact HB1.out.size)
    have ht := try_any 12 #[] #[.pointer (some ⟨bl, 0, none⟩)] A6 C6 q m HM hC6 hM6 w2 (Lib.hid (HBY.out.keep hb2)) (fun k => k = bl) (fun k hk => by omega)
      (fun g b w' => RLA (bodyP q) bl (fun k => k = g) b w') (fun b w' => RLA (bodyP q) bl (fun _ => False) b w')
      (fun g b v2 v3 hg h hk => rla_keep h hk (by omega))
      (fun g v2 hg hr hb => lFn_any g bl q hq2 v2 (by omega) (Lib.hid ((hb.block bl hblw).trans HL2.out)) (Lib.hid hr))
      (fun _ _ => by first | rfl | kernel_rfl)
    have HT := Lib.hid ht
    have hmf : ∀ (fn : Fn) (first cap : Array Value) (w : World), (Instr.makeFunc fn first cap).run Tryd.prog w = .ok (.func fn first cap) w := fun _ _ _ _ => rfl
    clear ht hw2 hbl hb2 hblw HBY
    rcases hb : bodyP q with _ | ⟨l, r⟩
    · rw [hb] at HT
      clear hb
      go_wp2_with (go_at_call 11; (with_reducible refine (HT.out).mono ?_); rintro e w8 ⟨b, rfl, hr, hk⟩; obtain rfl : b = false := hr; have HB8 := Lib.hid hk; clear hk)
      refine bodyPost_ret (results_tmp2 rfl _ _ _) rfl (.inl ⟨3, .inl rfl, rfl, ?_⟩)
      exact (HBW.out.trans (HB8.out.below HBW.out.size (fun k hk => by have hk : k = bl := hk; have := HBL.out; omega)))
    · rcases r with _ | ⟨x, r⟩
      · have HLB := Lib.hid (HBC.out l hb)
        rw [hb] at HT
        clear hb
        go_wp2_with (go_at_call 11; (with_reducible refine (HT.out).mono ?_); rintro e w8 ⟨b, rfl, hr, hk⟩; obtain ⟨hbt, A9, n9, c9, hrow, h1, h2, h3, h4, -⟩ := hr; obtain rfl : b = true := hbt; have HB8 := Lib.hid hk; have HO9 := Lib.hid h4; have HC9 := Lib.hid (And.intro h1 (And.intro h2 h3)); have c8 : w8.cell? ⟨bl, 0, none⟩ = some (.slice A9 n9 c9) := (by rw [cell_of_row _ _ _ _ _ _ hrow]; rfl); clear hrow h1 h2 h3 h4 hk)
        refine bodyPost_ret (results_tmp2 rfl _ _ _) rfl (.inr ⟨A9, n9, c9, l, rfl, HO9.out, HC9.out.1, HC9.out.2.1, HC9.out.2.2, HLB.out.1, ?_, ?_, ?_⟩)
        · rw [HOP.out, HLB.out.2.1]
        · rw [HO9.out.len]; exact HLB.out.2.2
        · exact (HBW.out.trans (HB8.out.below HBW.out.size (fun k hk => by have hk : k = bl := hk; have := HBL.out; omega)))
      · rw [hb] at HT
        clear hb
        go_wp2_with (go_at_call 11; (with_reducible refine (HT.out).mono ?_); rintro e w8 ⟨b, rfl, hr, hk⟩; obtain rfl : b = false := hr.1; have HB8 := Lib.hid hk; clear hr hk)
        refine bodyPost_ret (results_tmp2 rfl _ _ _) rfl (.inl ⟨3, .inl rfl, rfl, ?_⟩)
        exact (HBW.out.trans (HB8.out.below HBW.out.size (fun k hk => by have hk : k = bl := hk; have := HBL.out; omega)))
  · have HE2 := Lib.hid (hE he)
    have hne : ¬ ((Pg.oneErr P 108 : Int) = 0) := by omega
    have HON : Hid (Calls Tryd.prog 10 #[.slice A N cap, .int .u8 108] w fun e w' => ∃ A6 m C6, e = .returned (.tuple #[.slice A6 m C6, .int .i64 (Pg.oneErr P 108 : Int)]) ∧ Below w.heap.size w w') := Lib.hid (HO.out.mono fun e w' ⟨A6, C6, h1, h2, h3, h4, h5⟩ => ⟨A6, _, C6, h1, h5⟩)
    generalize Pg.oneErr P 108 = c at *
    clear HO hE he hbody hlt
    go_enter Tryd.func5, Tryd.ntmps5
    go_wp2_with (go_at_call 10; (with_reducible refine (HON.out).mono ?_); rintro e w1 ⟨A6, m, C6, rfl, h5⟩; have HB1 := Lib.hid h5; clear h5)
    refine bodyPost_ret (results_tmp2 rfl _ _ _) rfl (.inl ⟨c, HE2.out, rfl, HB1.out⟩)
end Go.Proofs.YtbimfopbilcdgaaDoor
