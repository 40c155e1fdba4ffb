/-
  Layer mark: rows of what is seen; the document's Of and Low.
-/
import Derived.Test.YtgoibcolehcgcaaKd
import Derived.Laws.AppendOwnNone
import Derived.Laws.OwnMore
import Derived.Maps.AppendAt
import Derived.OwnWalk
import Derived.OwnWalkIn
set_option linter.unusedSimpArgs false
set_option linter.unusedVariables false
set_option maxRecDepth 8000
namespace Go.Proofs.Ytgoibcolehcgcaa
open Go.RowKit Go.WideShapes Mk
/-- A time of a partition. -/
abbrev Sn := Int × Int
def snC (x : Sn) : List Value := [.int .i64 x.1, .int .i64 x.2]
theorem snc_len (x : Sn) : (snC x).length = 2 := rfl
theorem snc_one (x : Sn) : ∀ v ∈ (snC x), v.oneCell' = true := fun v hv => by
  simp only [snC, List.mem_cons, List.not_mem_nil, or_false] at hv
  rcases hv with rfl | rfl <;> rfl
def sns (l : List Sn) : List Value := l.flatMap snC
theorem sns_length (l : List Sn) : (sns l).length = l.length * 2 := by
  induction l with
  | nil => rfl
  | cons x r ih => unfold sns at *; rw [List.flatMap_cons, List.length_append, ih, snc_len, List.length_cons]; omega
theorem sns_one (l : List Sn) : ∀ v ∈ sns l, v.oneCell' = true := fun v hv => by
  obtain ⟨x, -, hx⟩ := List.mem_flatMap.1 hv
  exact snc_one x v hx
theorem sns_get (l : List Sn) (k j : Nat) (hj : j < 2) : (sns l)[k * 2 + j]? = (l[k]?).bind fun x => (snC x)[j]? := by
  induction l generalizing k with
  | nil => simp [sns]
  | cons x r ih =>
    unfold sns at *
    rw [List.flatMap_cons]
    rcases k with _ | k
    · rw [List.getElem?_append_left (by rw [snc_len]; omega)]; simp
    · rw [List.getElem?_append_right (by rw [snc_len]; omega), snc_len, show (k + 1) * 2 + j - 2 = k * 2 + j by omega, ih]; simp
/-- A slice value that holds some events, in a world. -/
def SnAt (w : World) (a : Option Addr) (l : List Sn) : Prop := ∀ (j : Nat) (v : Value), (sns l)[j]? = some v → ∃ g off, a = some ⟨g, off, none⟩ ∧ g < w.heap.size ∧ w.cell? ⟨g, off + j, none⟩ = some v
theorem SnAt.keep {w w' : World} {a : Option Addr} {l : List Sn} (h : SnAt w a l) (hb : Below w.heap.size w w') : SnAt w' a l := fun j v hv => by
  obtain ⟨g, off, h2, h3, h4⟩ := h j v hv
  exact ⟨g, off, h2, Nat.lt_of_lt_of_le h3 hb.size, (hb.cell (p := ⟨g, off + j, none⟩) h3).trans h4⟩
theorem infoSn : (Try.prog.info? 37).map (fun i => (i.zero, i.size, i.bytes)) = some (some (.agg #[.int .i64 0, .int .i64 0]), 2, 16) := by kernel_rfl
/-- Events that a call owns. -/
def OwnN (w : World) (B : Nat) (A : Option Addr) (n cap : Nat) (l : List Sn) : Prop := w.ownsRow B 37 2 (.slice A n cap) n (sns l)
theorem rn_slice {w : World} {B n : Nat} {v : Value} {xs : List Value} (h : w.ownsRow B 37 2 v n xs) : ∃ A cap, v = .slice A n cap ∧ n ≤ cap ∧ cap ≤ maxLen ∧ (A = none → cap = 0) := by
  rcases h.2 with ⟨e0, e1⟩ | ⟨g, cap', cur, e0, -, -, h1, h2, -⟩
  · exact ⟨none, 0, by rw [e0, e1], by omega, Nat.zero_le _, fun _ => rfl⟩
  · exact ⟨_, _, e0, h1, h2, fun h => by cases h⟩
theorem rn_base {w : World} {B n cap : Nat} {A : Option Addr} {l : List Sn} (h : OwnN w B A n cap l) : ∀ k, (Value.slice A n cap).ownBlock = some k → B ≤ k := by
  intro k hk
  rcases h.2 with ⟨e0, e1⟩ | ⟨g, cap', cur, e0, hb, -⟩
  · rw [e0] at hk; cases hk
  · rw [e0] at hk; cases hk; exact hb
/-- append of events, the source nil, empty or not. -/
theorem wpList_append_sn {w : World} {ops : Array Oper} {rest : List Oper} {o : Oper} {ac : Act} {Q : Exit → Act → World → Prop} (hgd : o.guard = none) (s x : Operand)
    (ho : o.op = .call { callee := .builtin .append, args := #[s, x], argTypes := #[22, 22] })
    (B : Nat) (A : Option Addr) (n cap : Nat) (l : List Sn) (hs : ac.eval s = .slice A n cap) (hown : OwnN w B A n cap l) (a : Option Addr) (m c : Nat) (l2 : List Sn) (hx : ac.eval x = .slice a m c) (hm : m = l2.length) (h2 : SnAt w a l2) (hnil : a = none → c = 0)
    (N : Nat) (hN : N = n + m) (hbytes : n + m ≤ 1000) (hbase : B ≤ w.heap.size)
    (h : ∀ A' cap' w', OwnN w' B A' N cap' (l ++ l2) → N ≤ cap' → cap' ≤ maxLen → (A' = none → cap' = 0) → Below B w w' → wpList Try.prog ops Q rest (ac.put o.dst (.slice A' N cap')) w') : wpList Try.prog ops Q (o :: rest) ac w := by
  subst hN
  obtain ⟨i0, hi, hz0, hz1, hz2⟩ := info_parts infoSn
  rcases a with _ | ad
  · obtain rfl := hnil rfl
    have hl2 : l2 = [] := by
      rcases l2 with _ | ⟨x, r⟩
      · rfl
      · obtain ⟨g, off, e, -⟩ := h2 0 (.int .i64 x.1) rfl; cases e
    subst hl2
    have h0 : m = 0 := hm
    subst h0
    obtain ⟨A1, c1, e1, e2, e3, e4⟩ := rn_slice hown
    injection e1 with b1 b2 b3
    subst b1; subst b3
    refine wpList_append_own_none hgd s x 22 ho B 37 i0 2 Try.underlying22 hi (.slice A n cap) n (sns l) hs hown hx ?_
    exact h A cap w (by rw [List.append_nil]; exact hown) e2 e3 e4 (Below.refl _ _)
  · refine wpList_append_own_at w hgd s x 22 ho B 37 i0 _ 2 16 Try.underlying22 hi hz0 hz1 hz2 rfl (by decide) (.slice A n cap) n (sns l) hs hown ad m c (sns l2) hx (by rw [sns_length, hm]) (fun j u hu => by
      obtain ⟨g', off', e, -, hc⟩ := h2 j u hu
      injection e with e; subst e
      rw [Addr.add_lit]; exact hc) (sns_one l2) (by unfold maxLen; omega) (by omega) hbase ?_
    intro v' w2 hown2 hgr _ _
    have e : sns l ++ sns l2 = sns (l ++ l2) := by unfold sns; rw [List.flatMap_append]
    rw [e] at hown2
    obtain ⟨A1, c1, rfl, e2, e3, e4⟩ := rn_slice hown2
    exact h A1 c1 w2 hown2 e2 e3 e4 ((Below.refl _ w).grown hgr hbase (rn_base hown))
theorem OwnN.at' {w : World} {B n cap : Nat} {A : Option Addr} {l : List Sn} (h : OwnN w B A n cap l) : SnAt w A l := fun j v hv => by
  have hjl := (List.getElem?_eq_some_iff.1 hv).1
  rcases h.2 with ⟨e0, e1⟩ | ⟨g, cap', cur, e0, hb, hg, hn, hm, hs, ht⟩
  · have := h.1; rw [e1, Nat.zero_mul] at this; omega
  · injection e0 with a1 a2 a3
    subst a1
    refine ⟨g, 0, rfl, (Array.getElem?_eq_some_iff.1 hg).1, ?_⟩
    rw [cell_of_row _ _ _ _ _ _ hg, Nat.zero_add, ← Array.getElem?_toList]
    have := h.1
    rw [← ht, List.getElem?_take] at hv
    rw [if_pos (by omega)] at hv
    exact hv
theorem snr {w : World} {A : Option Addr} {l : List Sn} (h : SnAt w A l) (i : Nat) (x : Sn) (hx : l[i]? = some x) : ∃ g off, A = some ⟨g, off, none⟩ ∧ g < w.heap.size ∧ w.rangeAt g (off + i * 2) (snC x) := by
  have h0 : (sns l)[i * 2 + 0]? = (snC x)[0]? := by rw [sns_get l i 0 (by decide), hx]; rfl
  obtain ⟨g, off, e, hg, -⟩ := h (i * 2 + 0) (.int .i64 x.1) (by rw [h0]; rfl)
  refine ⟨g, off, e, hg, fun j v hv => ?_⟩
  have hj : j < 2 := (List.getElem?_eq_some_iff.1 hv).1
  have h1 : (sns l)[i * 2 + j]? = some v := by rw [sns_get l i j hj, hx]; exact hv
  obtain ⟨g', off', e', -, hc⟩ := h _ _ h1
  rw [e] at e'; injection e' with e'; injection e' with b1 b2; subst b1; subst b2
  rw [Nat.add_assoc]; exact hc
theorem OwnN.less {w : World} {B B' n cap : Nat} {A : Option Addr} {l : List Sn} (h : OwnN w B A n cap l) (hB : B' ≤ B) : OwnN w B' A n cap l := by
  refine ⟨h.1, ?_⟩
  rcases h.2 with h1 | ⟨g, cap', cur, h1, hb, h2⟩
  · exact .inl h1
  · exact .inr ⟨g, cap', cur, h1, Nat.le_trans hB hb, h2⟩
theorem OwnN.nil (w : World) (B : Nat) : OwnN w B none 0 0 [] := w.ownsRow_nil B _ 2
theorem OwnN.keep {w w' : World} {B n cap : Nat} {A : Option Addr} {l : List Sn} (h : OwnN w B A n cap l) (hb : Below w.heap.size w w') : OwnN w' B A n cap l :=
  World.ownsRow.kept (row := none) h ⟨hb.os, hb.tape, hb.output, hb.size, fun k hk _ => hb.block k hk⟩ (by rcases A with _ | a <;> simp [Value.ownBlock])
theorem SnAt.cells {w : World} {a : Option Addr} {l : List Sn} (h : SnAt w a l) (k : Nat) (x : Sn) (hx : l[k]? = some x) : ∃ g off, a = some ⟨g, off, none⟩ ∧ g < w.heap.size ∧ w.cell? ⟨g, off + k * 2, none⟩ = some (.int .i64 x.1) ∧ w.cell? ⟨g, off + k * 2 + 1, none⟩ = some (.int .i64 x.2) := by
  obtain ⟨g, off, rfl, hg, hr⟩ := snr h k x hx
  exact ⟨g, off, rfl, hg, by simpa using hr 0 _ rfl, hr 1 _ rfl⟩
set_option maxHeartbeats 2000000 in
theorem refOfM_any (n p : Int) (l : List Sn) (ll c : Nat) (a : Option Addr) (hll : Hid (ll = l.length)) (hb : ll ≤ 9223372036854775807) (w : World) (H : Hid (SnAt w a l)) :
    Calls Try.prog 12 #[.slice a ll c, .int .i64 n, .int .i64 p] w fun e w' => e = .returned (.tuple #[.int .i64 ((ofL n p l).getD 0), .bool (ofL n p l).isSome]) ∧ w = w' := by
  go_enter Try.func12, Try.ntmps12
  go_wp2
  go_loopw [8, 9, 10] (fun t b i wr => ∃ k : Nat, k ≤ ll ∧ i = .int .i64 (k : Int) ∧ ∃ o : Option Int, Hid (o = ofL n p (l.take k)) ∧ t = .int .i64 (o.getD 0) ∧ b = .bool o.isSome ∧ wr = w) (fun _ _ i _ => ll - (intOf i).toNat)
  case atStart => exact ⟨0, by omega, rfl, none, Lib.hid rfl, rfl, rfl, rfl⟩
  case round =>
    obtain ⟨k, hk, rfl, o, ho, rfl, rfl, rfl⟩ := hrel
    by_cases hlt : k < ll
    · obtain ⟨x, hx⟩ : ∃ x, l[k]? = some x := ⟨l[k]'(by have := hll.out; omega), List.getElem?_eq_getElem _⟩
      obtain ⟨g, off, rfl, hg, c1, c2⟩ := H.out.cells k x hx
      obtain ⟨q, t⟩ := x
      have HS : Hid (ofL n p (l.take (k + 1)) = if q = p ∧ 0 ≤ p ∧ p < n then top1 o t else o) := Lib.hid (by
        obtain ⟨hk', e⟩ := List.getElem?_eq_some_iff.1 hx
        rw [List.take_succ_eq_append_getElem hk', e, ofL_snoc, ← ho.out])
      clear hx ho
      by_cases h1 : q = p
      · by_cases h2 : 0 ≤ p
        · by_cases h3 : p < n
          · rcases o with _ | u
            · have HS2 : Hid (some t = ofL n p (l.take (k + 1))) := Lib.hid (by rw [HS.out, if_pos ⟨h1, h2, h3⟩]; rfl)
              clear HS
              go_wp2
              go_roundw
              case rel => exact ⟨k + 1, by omega, by go_num, some t, HS2, rfl, rfl, by first | rfl | trivial⟩
              case measure => simp [intOf]; omega
            · by_cases h4 : u < t
              · have HS2 : Hid (some t = ofL n p (l.take (k + 1))) := Lib.hid (by rw [HS.out, if_pos ⟨h1, h2, h3⟩]; show _ = if u < t then some t else some u; rw [if_pos h4])
                clear HS
                go_wp2
                go_roundw
                case rel => exact ⟨k + 1, by omega, by go_num, some t, HS2, rfl, rfl, by first | rfl | trivial⟩
                case measure => simp [intOf]; omega
              · have HS2 : Hid (some u = ofL n p (l.take (k + 1))) := Lib.hid (by rw [HS.out, if_pos ⟨h1, h2, h3⟩]; show _ = if u < t then some t else some u; rw [if_neg h4])
                clear HS
                go_wp2
                go_roundw
                case rel => exact ⟨k + 1, by omega, by go_num, some u, HS2, rfl, rfl, by first | rfl | trivial⟩
                case measure => simp [intOf]; omega
          · have HS2 : Hid (o = ofL n p (l.take (k + 1))) := Lib.hid (by rw [HS.out, if_neg (by omega)])
            clear HS
            go_wp2
            go_roundw
            case rel => exact ⟨k + 1, by omega, by go_num, o, HS2, rfl, rfl, by first | rfl | trivial⟩
            case measure => simp [intOf]; omega
        · have HS2 : Hid (o = ofL n p (l.take (k + 1))) := Lib.hid (by rw [HS.out, if_neg (by omega)])
          clear HS
          go_wp2
          go_roundw
          case rel => exact ⟨k + 1, by omega, by go_num, o, HS2, rfl, rfl, by first | rfl | trivial⟩
          case measure => simp [intOf]; omega
      · have HS2 : Hid (o = ofL n p (l.take (k + 1))) := Lib.hid (by rw [HS.out, if_neg (by omega)])
        clear HS
        go_wp2
        go_roundw
        case rel => exact ⟨k + 1, by omega, by go_num, o, HS2, rfl, rfl, by first | rfl | trivial⟩
        case measure => simp [intOf]; omega
    · obtain rfl : k = ll := by omega
      have HO : Hid (o = ofL n p l) := Lib.hid (by rw [ho.out, List.take_of_length_le (by have := hll.out; omega)])
      clear ho
      go_wp2
      go_ret2
      exact ⟨by rw [HO.out]; rfl, rfl⟩
set_option maxHeartbeats 2000000 in
theorem refLowM_any (n : Nat) (hn8 : n ≤ 8) (l : List Sn) (ll c : Nat) (a : Option Addr) (hll : Hid (ll = l.length)) (hb : ll ≤ 9223372036854775807) (w : World) (H : Hid (SnAt w a l)) :
    Calls Try.prog 13 #[.slice a ll c, .int .i64 (n : Int)] w fun e w' => e = .returned (.tuple #[.int .i64 ((lowO (sees n l) n).getD 0), .bool (lowO (sees n l) n).isSome]) ∧ w = w' := by
  obtain ⟨g, hg⟩ : ∃ g, g = sees n l := ⟨_, rfl⟩
  rw [← hg]
  have HC : ∀ k : Nat, Hid (Calls Try.prog 12 #[.slice a ll c, .int .i64 (n : Int), .int .i64 (k : Int)] w fun e w' => e = .returned (.tuple #[.int .i64 ((g k).getD 0), .bool (g k).isSome]) ∧ w = w') := fun k => Lib.hid (by
    have h := refOfM_any (n : Int) (k : Int) l ll c a hll hb w H
    rw [hg]; exact h)
  clear hg
  go_enter Try.func13, Try.ntmps13
  go_wp2
  go_loopw [6, 7] (fun v i wr => ∃ k : Nat, k ≤ n ∧ i = .int .i64 (k : Int) ∧ v = .int .i64 (if k = 0 then 0 else lowV g k) ∧ Hid (allS g k) ∧ wr = w) (fun _ i _ => n - (intOf i).toNat)
  case atStart => exact ⟨0, by omega, rfl, rfl, Lib.hid (allS_zero g), rfl⟩
  case round =>
    obtain ⟨k, hk, rfl, rfl, HA, rfl⟩ := hrel
    have HCk := HC k
    clear HC
    by_cases hlt : k < n
    · obtain ⟨v, hv⟩ : ∃ v, v = (if k = 0 then 0 else lowV g k) := ⟨_, rfl⟩
      rw [← hv]
      have HV := Lib.hid hv
      clear hv
      rcases hg : g k with _ | t
      · have HN := Lib.hid (lowO_none hlt hg)
        have HG := Lib.hid hg
        clear hg
        go_wp2_with (first
          | (go_at_call 12; (with_reducible refine (HCk.out).mono ?_); rintro e w3 ⟨rfl, rfl⟩; rw [HG.out]))
        go_ret2
        exact ⟨by rw [HN.out]; rfl, rfl⟩
      · have HG := Lib.hid hg
        have HA2 := Lib.hid (allS_succ HA.out (by rw [hg]; rfl))
        by_cases h0 : k = 0
        · subst h0
          have HL : Hid (t = lowV g (0 + 1)) := Lib.hid (by rw [lowV_one, hg]; rfl)
          have HCk : Hid (Calls Try.prog 12 #[.slice a ll c, .int .i64 (n : Int), .int .i64 0] wr fun e w' => e = .returned (.tuple #[.int .i64 ((g 0).getD 0), .bool (g 0).isSome]) ∧ wr = w') := HCk
          clear hg
          go_wp2_with (first
            | (go_at_call 12; (with_reducible refine (HCk.out).mono ?_); rintro e w3 ⟨rfl, rfl⟩; rw [HG.out]))
          go_roundw
          case rel => exact ⟨1, by omega, by go_num, by rw [if_neg (show ¬ 1 = 0 by omega)]; exact congrArg _ HL.out, HA2, by first | rfl | trivial⟩
          case measure => simp [intOf]; omega
        · have hz : ((k : Int) == 0) = false := by rw [beq_eq_false_iff_ne]; omega
          by_cases h1 : t < v
          · have HL : Hid (t = lowV g (k + 1)) := Lib.hid (by rw [lowV_succ, hg]; show _ = if t < lowV g k then t else lowV g k; have := HV.out; rw [if_neg h0] at this; rw [← this, if_pos h1])
            clear hg
            go_wp2_with (first
              | (go_at_call 12; (with_reducible refine (HCk.out).mono ?_); rintro e w3 ⟨rfl, rfl⟩; rw [HG.out]))
            go_roundw
            case rel => exact ⟨k + 1, by omega, by go_num, by rw [if_neg (show ¬ k + 1 = 0 by omega)]; exact congrArg _ HL.out, HA2, by first | rfl | trivial⟩
            case measure => simp [intOf]; omega
          · have HL : Hid (v = lowV g (k + 1)) := Lib.hid (by rw [lowV_succ, hg]; show _ = if t < lowV g k then t else lowV g k; have := HV.out; rw [if_neg h0] at this; rw [← this, if_neg h1])
            clear hg
            go_wp2_with (first
              | (go_at_call 12; (with_reducible refine (HCk.out).mono ?_); rintro e w3 ⟨rfl, rfl⟩; rw [HG.out]))
            go_roundw
            case rel => exact ⟨k + 1, by omega, by go_num, by rw [if_neg (show ¬ k + 1 = 0 by omega)]; exact congrArg _ HL.out, HA2, by first | rfl | trivial⟩
            case measure => simp [intOf]; omega
    · obtain rfl : k = n := by omega
      obtain ⟨v, hv⟩ : ∃ v, v = (if k = 0 then 0 else lowV g k) := ⟨_, rfl⟩
      rw [← hv]
      have HV := Lib.hid hv
      clear hv
      by_cases h0 : k = 0
      · subst h0
        go_wp2
        go_ret2
        exact ⟨by rw [HV.out]; rfl, rfl⟩
      · have hp : 0 < k := by omega
        go_wp2
        go_ret2
        exact ⟨by rw [HV.out, if_neg h0, lowO_all hp HA.out]; rfl, rfl⟩
end Go.Proofs.Ytgoibcolehcgcaa
