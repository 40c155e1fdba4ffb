/-
  Lists of lists of bytes that came in; the law PageSeveral.
-/
import Derived.Test.YtamdonglbdmckaaDoorGn
set_option linter.unusedSimpArgs false
set_option linter.unusedVariables false
namespace Go.Proofs.YtamdonglbdmckaaDoor
open Go.RowKit

/-- A slice of slices of bytes, in a world. -/
def BssAt (w : World) (a : Option Addr) (ls : List (List Nat)) : Prop := ∀ (k : Nat) (l : List Nat), ls[k]? = some l → ∃ g off A cap, a = some ⟨g, off, none⟩ ∧ g < w.heap.size ∧ w.cell? ⟨g, off + k, none⟩ = some (.slice A l.length cap) ∧ l.length ≤ cap ∧ cap ≤ maxLen ∧ ByAt w A l
theorem BssAt.keep {w w' : World} {a : Option Addr} {ls : List (List Nat)} (h : BssAt w a ls) (hb : Below w.heap.size w w') : BssAt w' a ls := fun k l hl => by
  obtain ⟨g, off, A, cap, h1, h2, h3, h4, h5, h6⟩ := h k l hl
  exact ⟨g, off, A, cap, h1, Nat.lt_of_lt_of_le h2 hb.size, (hb.cell (p := ⟨g, off + k, none⟩) h2).trans h3, h4, h5, h6.keep hb⟩
theorem BssAt.at {w w' : World} {a : Option Addr} {ls : List (List Nat)} (h : Hid (BssAt w a ls)) (hb : Below w.heap.size w w') : Hid (BssAt w' a ls) := h.out.keep hb

namespace Pg
/-- Pages one behind the other, from a kind on. -/
def lays : Nat → List (List Nat) → List Nat
  | _, [] => []
  | i, b :: r => lay (i % 256) b ++ lays (i + 1) r
theorem lays_snoc : ∀ (i : Nat) (r : List (List Nat)) (b : List Nat), lays i (r ++ [b]) = lays i r ++ lay ((i + r.length) % 256) b
  | i, [], b => by simp [lays]
  | i, x :: r, b => by
    show lay (i % 256) x ++ lays (i + 1) (r ++ [b]) = (lay (i % 256) x ++ lays (i + 1) r) ++ lay ((i + (r.length + 1)) % 256) b
    rw [lays_snoc (i + 1) r b, List.append_assoc, show i + 1 + r.length = i + (r.length + 1) by omega]
theorem lays_append : ∀ (i : Nat) (r s : List (List Nat)), lays i (r ++ s) = lays i r ++ lays (i + r.length) s
  | i, [], s => by simp [lays]
  | i, x :: r, s => by
    show lay (i % 256) x ++ lays (i + 1) (r ++ s) = (lay (i % 256) x ++ lays (i + 1) r) ++ lays (i + (r.length + 1)) s
    rw [lays_append (i + 1) r s, List.append_assoc, show i + 1 + r.length = i + (r.length + 1) by omega]
theorem lays_len : ∀ (i : Nat) (r : List (List Nat)), (∀ b ∈ r, b.length ≤ 300) → (lays i r).length ≤ 309 * r.length
  | _, [], _ => by simp [lays]
  | i, x :: r, h => by
    have h1 := h x (by simp)
    have h2 := lays_len (i + 1) r (fun b hb => h b (by simp [hb]))
    show (lay (i % 256) x ++ lays (i + 1) r).length ≤ 309 * (r.length + 1)
    rw [List.length_append, lay_len]; omega
end Pg
theorem i_val {a b : Int} (h : a = b) : Value.int .i64 a = Value.int .i64 b := by rw [h]
theorem s_val {A : Option Addr} {n n' c : Nat} (h : n = n') : Value.slice A n c = Value.slice A n' c := by rw [h]
theorem take_snoc2 {α : Type} (l : List α) (k : Nat) (h : k < l.length) : l.take (k + 1) = l.take k ++ [l[k]] := by
  rw [List.take_succ_eq_append_getElem h]

/-- Behind some rounds of the first loop. -/
def S1 (B : Nat) (w1 : World) (ls : List (List Nat)) (k : Nat) (v : Value) (wr : World) : Prop := ∃ A cap, v = .slice A (Pg.lays 0 (ls.take k)).length cap ∧ OwnS wr B A (Pg.lays 0 (ls.take k)).length cap (Pg.lays 0 (ls.take k)) ∧ Below B w1 wr ∧ ∀ b ∈ ls.take k, b.length ≤ 300

theorem pageSeveral_out (a : Option Addr) (n ca : Nat) (hL : 12 < n) (W : World) (HG : Hid (HalvesAt W)) :
    Calls Tryd.prog 8 #[.slice a n ca] W fun e w' => e = .returned (.bool true) ∧ Below W.heap.size W w' := by
  go_enter Tryd.func8, Tryd.ntmps8
  go_wp2_with (go_at_call 9; refine (awake_any _ HG).mono ?_; rintro e w1 ⟨rfl, hb⟩; have HB := Lib.hid hb; clear hb; have HG1 := HalvesAt.at HG HB.out)
  go_wp2_with (go_at_call 9; refine (awake_any _ HG1).mono ?_; rintro e w2 ⟨rfl, hb⟩; have HB2 := Lib.hid hb; clear hb)
  go_ret
  exact ⟨ret_eq rfl, below_to HB.out HB2.out⟩

set_option maxHeartbeats 4000000 in
theorem pageSeveral_in (a : Option Addr) (ls : List (List Nat)) (n ca : Nat) (hn : Hid (n = ls.length)) (hca : n ≤ ca) (hL : ¬ 12 < n) (W : World) (HA : Hid (BssAt W a ls)) (HG : Hid (HalvesAt W)) (hW : 0 < W.heap.size) :
    Calls Tryd.prog 8 #[.slice a n ca] W fun e w' => e = .returned (.bool true) ∧ Below W.heap.size W w' := by
  go_enter Tryd.func8, Tryd.ntmps8
  go_wp2_with (go_at_call 9; refine (awake_any _ HG).mono ?_; rintro e w1 ⟨rfl, hb⟩; have HB := Lib.hid hb; clear hb; have HG1 := HalvesAt.at HG HB.out; have HA1 := BssAt.at HA HB.out; have hW1 := Nat.lt_of_lt_of_le hW HB.out.size)
  go_loopw [3, 4] (fun v i wr => ∃ k : Nat, k ≤ n ∧ i = .int .i64 k ∧ S1 w1.heap.size w1 ls k v wr) (fun _ i _ => n - (intOf i).toNat)
  case atStart => exact ⟨0, Nat.zero_le _, rfl, none, 0, rfl, OwnS.nil _ _, Below.refl _ _, by simp⟩
  case round =>
    obtain ⟨k, hk, rfl, A, cap, rfl, hO, hB, h300⟩ := hrel
    have HO := Lib.hid hO
    have HBr := Lib.hid hB
    have H300 := Lib.hid h300
    have hpl : (Pg.lays 0 (ls.take k)).length ≤ 309 * k := Nat.le_trans (Pg.lays_len 0 _ h300) (Nat.mul_le_mul_left _ (List.length_take_le _ _))
    clear hO hB h300
    by_cases hlt : k < n
    · have hkl : k < ls.length := by have := hn.out; omega
      obtain ⟨g, off, Ab, cb, rfl, hg, hcell, hc1, hc2, hby⟩ := (HA1.out.keep HBr.out) k ls[k] (List.getElem?_eq_getElem hkl)
      have HS : Hid (Pg.lays 0 (ls.take (k + 1)) = Pg.lays 0 (ls.take k) ++ Pg.lay (k % 256) ls[k]) := Lib.hid (by
        rw [take_snoc2 ls k hkl, Pg.lays_snoc, List.length_take, Nat.min_eq_left (by omega), Nat.zero_add])
      have HT : Hid (ls.take (k + 1) = ls.take k ++ [ls[k]]) := Lib.hid (take_snoc2 ls k hkl)
      have HY := Lib.hid hby
      have hm : Hid (ls[k].length = ls[k].length) := Lib.hid rfl
      have hkind : IntKind.u8.wrap (k : Int) = ((k % 256 : Nat) : Int) := by rw [IntKind.wrap_u8']; omega
      clear hby
      generalize Pg.lays 0 (ls.take k) = P at *
      generalize ls[k] = bd at *
      obtain ⟨m, hmm⟩ : ∃ m, m = bd.length := ⟨_, rfl⟩
      rw [← hmm] at hcell hc1
      have hmH := Lib.hid hmm
      clear hmm hm
      have HZr : Hid (w1.heap.size ≤ wr.heap.size) := Lib.hid HBr.out.size
      have HGr := HalvesAt.at HG1 HBr.out
      by_cases h3 : 300 < m
      · go_wp2
        go_ret
        exact ⟨ret_eq rfl, below_to HB.out HBr.out⟩
      · go_wp2_with (go_at_call 12; refine (lay_any A P.length cap P (k % 256) Ab m cb bd w1.heap.size wr HO hmH (by omega) (Nat.mod_lt _ (by decide)) HY HGr HZr.out hW1).mono ?_; rintro e w2 ⟨A2, cap2, rfl, hO, hb⟩; have HO2 := Lib.hid hO; have HB2 := Lib.hid (HBr.out.trans hb); clear hO hb)
        go_roundw
        case rel => exact ⟨k + 1, by omega, by go_num, A2, cap2, by rw [HS.out, List.length_append, Pg.lay_len, ← hmH.out]; exact s_val (by omega), by rw [HS.out]; have h := HO2.out; rwa [show P.length + 5 + m + 4 = (P ++ Pg.lay (k % 256) bd).length by rw [List.length_append, Pg.lay_len, ← hmH.out]; omega] at h, HB2.out, fun b hb => by
            rw [HT.out] at hb
            rcases List.mem_append.1 hb with h | h
            · exact H300.out b h
            · rw [List.mem_singleton.1 h, ← hmH.out]; omega⟩
        case measure => simp [intOf]; omega
    · have hkn : k = n := by omega
      subst hkn
      have HP : Hid (Pg.lays 0 (ls.take k) = Pg.lays 0 ls) := Lib.hid (by rw [List.take_of_length_le (by have := hn.out; omega)])
      have H301 : Hid (∀ b ∈ ls, b.length ≤ 300) := Lib.hid (by have h := H300.out; rwa [List.take_of_length_le (by have := hn.out; omega)] at h)
      generalize Pg.lays 0 (ls.take k) = P at *
      obtain ⟨wo, rfl⟩ : ∃ wo : World, wo = wr := ⟨_, rfl⟩
      have HGo := HalvesAt.at HG1 HBr.out
      have HAo := BssAt.at HA1 HBr.out
      obtain ⟨hcP, hcap⟩ := HO.out.caps
      have HPo := Lib.hid HO.out.byAt
      have HPl : Hid (P.length = P.length) := Lib.hid rfl
      clear H300
      go_wp2
      go_loopw [5, 6] (fun t i wr => ∃ j : Nat, j ≤ k ∧ i = .int .i64 j ∧ t = .int .i64 (Pg.lays 0 (ls.take j)).length ∧ Below wo.heap.size wo wr) (fun _ i _ => k - (intOf i).toNat)
      case atStart => exact ⟨0, Nat.zero_le _, rfl, rfl, Below.refl _ _⟩
      case round =>
        obtain ⟨j, hj, rfl, rfl, hBw⟩ := hrel
        have HBw := Lib.hid hBw
        clear hBw
        by_cases hjt : j < k
        · have hjl : j < ls.length := by have := hn.out; omega
          have HGw := HalvesAt.at HGo HBw.out
          have HPw := ByAt.at HPo HBw.out
          obtain ⟨g, off, Ab, cb, rfl, hg, hcell, hc1, hc2, hby⟩ := (HAo.out.keep HBw.out) j ls[j] (List.getElem?_eq_getElem hjl)
          have HY := Lib.hid hby
          have hcut : P = Pg.lays 0 (ls.take j) ++ (Pg.lay (j % 256) ls[j] ++ Pg.lays (j + 1) (ls.drop (j + 1))) := by
            rw [HP.out]
            conv => lhs; rw [← List.take_append_drop j ls, List.drop_eq_getElem_cons hjl]
            rw [Pg.lays_append, List.length_take, Nat.min_eq_left (by omega), Nat.zero_add]
            rfl
          obtain ⟨f1, f2, f3, f4⟩ := Pg.read_lay (Pg.lays 0 (ls.take j)) (j % 256) ls[j] (Pg.lays (j + 1) (ls.drop (j + 1))) ((Pg.lays 0 (ls.take j)).length : Int) rfl (Nat.mod_lt _ (by decide)) hby.lt (by have := H301.out ls[j] (List.getElem_mem hjl); omega)
          rw [← hcut] at f1 f2 f3 f4
          have HNX : Hid ((Pg.lays 0 (ls.take (j + 1))).length = (Pg.lays 0 (ls.take j)).length + 9 + ls[j].length) := Lib.hid (by
            rw [take_snoc2 ls j hjl, Pg.lays_snoc, List.length_append, Pg.lay_len]; omega)
          have HF3 := Lib.hid f3
          have hkind : IntKind.u8.wrap (j : Int) = ((j % 256 : Nat) : Int) := by rw [IntKind.wrap_u8']; omega
          have hPl2 : (Pg.lays 0 (ls.take j)).length ≤ 309 * 12 := Nat.le_trans (Pg.lays_len 0 _ (fun b hb => H301.out b (List.mem_of_mem_take hb))) (Nat.mul_le_mul_left _ (Nat.le_trans (List.length_take_le _ _) (by omega)))
          have hb300 := H301.out ls[j] (List.getElem_mem hjl)
          clear hcut hby
          generalize (Pg.lays 0 (ls.take j)).length = at0 at *
          generalize ls[j] = bd at *
          go_wp2_with (go_at_call 14; refine (read_any A P P.length cap at0 (Lib.hid rfl) hcP hcap _ HPw HGw).mono ?_; rintro e w2 ⟨A6, C6, rfl, hA, hc3, hc4, hb⟩; have HW2 := Lib.hid hb; rw [HF3.out] at hA; have H6 := Lib.hid hA; clear hA hb hc3 hc4; have hcell2 := (HW2.out.cell (p := ⟨g, off + j, none⟩) hg).trans hcell; have q6 : ∀ n, (convert 22 9 (.slice A6 bd.length C6)).run Tryd.prog (w2.drewN n) = .ok (.string (strB bd)) (w2.drewN n) := fun n => conv_by _ _ (H6.out.keep (below_drewN (Below.refl _ _) n)) rfl; have q7 : ∀ n, (convert 22 9 (.slice Ab bd.length cb)).run Tryd.prog (w2.drewN n) = .ok (.string (strB bd)) (w2.drewN n) := fun n => conv_by _ _ (HY.out.keep (HW2.out.trans (below_drewN (Below.refl _ _) n))) rfl)
          go_quiet (fail)
          go_wp2
          go_roundw
          case rel => exact ⟨j + 1, by omega, by go_num, i_val (by rw [HNX.out]; omega), HBw.out.trans ((below_drewN HW2.out nq).mono HBw.out.size)⟩
          case measure => simp [intOf]; omega
        · have hE : Hid ((Pg.lays 0 (ls.take j)).length = P.length) := Lib.hid (by rw [HP.out, List.take_of_length_le (by have := hn.out; omega)])
          have ht : (((Pg.lays 0 (ls.take j)).length : Int) == (P.length : Int)) = true := by rw [hE.out]; simp
          generalize (Pg.lays 0 (ls.take j)).length = at0 at *
          go_wp2
          go_ret
          exact ⟨ret_eq rfl, below_to (below_to HB.out HBr.out) HBw.out⟩

theorem pageSeveral_any (a : Option Addr) (ls : List (List Nat)) (n ca : Nat) (hn : Hid (n = ls.length)) (hca : n ≤ ca) (hla : ca ≤ maxLen) (W : World) (HA : Hid (BssAt W a ls)) (HG : Hid (HalvesAt W)) :
    Calls Tryd.prog 8 #[.slice a n ca] W fun e w' => e = .returned (.bool true) ∧ Below W.heap.size W w' := by
  by_cases hL : 12 < n
  · exact pageSeveral_out a n ca hL W HG
  · exact pageSeveral_in a ls n ca hn hca hL W HA HG (World.block_lt_of_cell? W _ (HG.out 0 (by decide)))
end Go.Proofs.YtamdonglbdmckaaDoor
