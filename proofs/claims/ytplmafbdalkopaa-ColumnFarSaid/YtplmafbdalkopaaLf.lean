/-
  The law ColumnFar: walked.
-/
import Derived.Test.YtplmafbdalkopaaLw
import Derived.Test.YtplmafbdalkopaaPk
set_option linter.unusedSimpArgs false
set_option linter.unusedVariables false
set_option maxRecDepth 8000
namespace Go.Proofs.Ytplmafbdalkopaa
open Go.RowKit Go.WideShapes Col
def farL (x : Int) : List Bool → List Int
  | [] => []
  | true :: l => -9223372036854775808 :: x :: farL x l
  | false :: l => 9223372036854775807 :: farL x l
theorem farL_app (x : Int) : ∀ l m : List Bool, farL x (l ++ m) = farL x l ++ farL x m
  | [], m => rfl
  | true :: l, m => by simp [farL, farL_app x l m]
  | false :: l, m => by simp [farL, farL_app x l m]
theorem farL_snoc (x : Int) (l : List Bool) (k : Nat) (b : Bool) (h : l[k]? = some b) : farL x (l.take (k + 1)) = farL x (l.take k) ++ farL x [b] := by
  rw [List.take_add_one, h, farL_app]; rfl
theorem farL_len (x : Int) : ∀ l : List Bool, (farL x l).length ≤ 2 * l.length
  | [] => Nat.le_refl _
  | true :: l => by have := farL_len x l; simp [farL]; omega
  | false :: l => by have := farL_len x l; simp [farL]; omega
theorem is_two (w : World) (x y : Int) (hx : Wf64 x) (hy : Wf64 y) : IsAt (w.alloc (.cells #[.int .i64 x, .int .i64 y] 2)) (some ⟨w.heap.size, 0, none⟩) [x, y] :=
  IsAt.of_row _ (fun z hz => by
    rcases List.mem_cons.1 hz with rfl | hz
    · exact hx
    · rw [List.mem_singleton.1 hz]; exact hy) (heap_alloc_new' w _) ⟨[], rfl⟩
theorem lo_wf : Wf64 (-9223372036854775808) := ⟨by omega, by omega⟩
theorem hi_wf : Wf64 9223372036854775807 := ⟨by omega, by omega⟩
def RFA (W : World) (x : Int) (l : List Bool) (n : Nat) (u v : Value) (wr : World) : Prop := ∃ (k L : Nat) (A : Option Addr) (cap : Nat), k ≤ n ∧ v = .int .i64 (k : Int) ∧ u = .slice A L cap ∧ L ≤ 2 * k ∧ OwnI wr W.heap.size A L cap (farL x (l.take k)) ∧ Below W.heap.size W wr
set_option maxHeartbeats 4000000 in
theorem columnFar_core (b : Option Addr) (l : List Bool) (n c : Nat) (hn : Hid (n = l.length)) (hnc : n ≤ c) (hc : c ≤ 9223372036854775807) (x : Int) (hx : -9223372036854775808 ≤ x ∧ x ≤ 9223372036854775807) (W : World) (HA : Hid (BlAt W b l)) :
    Calls Try.prog 9 #[.slice b n c, .int .i64 x] W fun e w' => e = .returned (.bool true) ∧ Below W.heap.size W w' := by
  have HWX : Hid (Wf64 x) := Lib.hid hx
  by_cases h50 : n ≤ 50
  · go_enter Try.func9, Try.ntmps9
    go_wp2_with (go_at_call 10; refine (awakeC_any _).mono ?_; rintro e w1 ⟨rfl, hb⟩; have HB1 := Lib.hid hb; clear hb)
    have HST : Hid (RFA W x l n (.slice none 0 0) (.int .i64 0) w1) := Lib.hid ⟨0, 0, none, 0, Nat.zero_le _, rfl, rfl, Nat.zero_le _, OwnI.nil _ _, HB1.out⟩
    go_loopw [5, 6] (fun u v wr => RFA W x l n u v wr) (fun _ v _ => n - (intOf v).toNat)
    case atStart => exact HST.out
    case round =>
      obtain ⟨k, L, A, cap, hk, rfl, rfl, hL, ho, hb⟩ := hrel
      have HO := Lib.hid ho; have HB := Lib.hid hb
      have hb2 := Lib.hid ho.base
      clear ho hb HST
      by_cases hlt : k < n
      · obtain ⟨t, ht⟩ : ∃ t, l[k]? = some t := ⟨l[k]'(by have := hn.out; omega), List.getElem?_eq_getElem _⟩
        obtain ⟨g, off, rfl, -, hcx⟩ := (HA.out.keep HB.out) k t ht
        have HSN := Lib.hid (farL_snoc x l k t ht)
        clear ht
        cases t
        · have HAX := Lib.hid (is_one wr 9223372036854775807 hi_wf)
          have HBB := Lib.hid ((Below.refl wr.heap.size wr).alloc (Nat.le_refl _) (.cells #[.int .i64 9223372036854775807] 2))
          have HOX := Lib.hid (HO.out.keep HBB.out)
          have hbs : W.heap.size ≤ (wr.alloc (.cells #[.int .i64 9223372036854775807] 2)).heap.size := Nat.le_trans HB.out.size HBB.out.size
          go_wp2_with (refine wpList_append_is rfl (.tmp 32) (.tmp 33) rfl W.heap.size A L cap _ rfl HOX.out ⟨wr.heap.size, 0, none⟩ 1 1 [9223372036854775807] rfl rfl HAX.out (by omega) hbs ?_; intro A3 c3 w4 ho hg; have HO4 := Lib.hid ho; have HB4 : Hid (Below W.heap.size W w4) := Lib.hid ((below_to HB.out HBB.out).grown hg hbs hb2.out); clear ho hg)
          go_roundw
          case rel => exact ⟨k + 1, L + 1, A3, c3, by omega, by go_num, rfl, by omega, by rw [HSN.out]; exact HO4.out, HB4.out⟩
          case measure => simp [intOf]; omega
        · have HAX := Lib.hid (is_two wr (-9223372036854775808) x lo_wf HWX.out)
          have HBB := Lib.hid ((Below.refl wr.heap.size wr).alloc (Nat.le_refl _) (.cells #[.int .i64 (-9223372036854775808), .int .i64 x] 2))
          have HOX := Lib.hid (HO.out.keep HBB.out)
          have hbs : W.heap.size ≤ (wr.alloc (.cells #[.int .i64 (-9223372036854775808), .int .i64 x] 2)).heap.size := Nat.le_trans HB.out.size HBB.out.size
          go_wp2_with (refine wpList_append_is rfl (.tmp 28) (.tmp 30) rfl W.heap.size A L cap _ rfl HOX.out ⟨wr.heap.size, 0, none⟩ 2 2 [-9223372036854775808, x] rfl rfl HAX.out (by omega) hbs ?_; intro A3 c3 w4 ho hg; have HO4 := Lib.hid ho; have HB4 : Hid (Below W.heap.size W w4) := Lib.hid ((below_to HB.out HBB.out).grown hg hbs hb2.out); clear ho hg)
          go_roundw
          case rel => exact ⟨k + 1, L + 2, A3, c3, by omega, by go_num, rfl, by omega, by rw [HSN.out]; exact HO4.out, HB4.out⟩
          case measure => simp [intOf]; omega
      · obtain rfl : k = n := by omega
        have HT : Hid (l.take k = l) := Lib.hid (List.take_of_length_le (by have := hn.out; omega))
        rw [HT.out] at HO
        obtain ⟨ms, hms⟩ : ∃ ms, ms = farL x l := ⟨_, rfl⟩
        rw [← hms] at HO
        have HWF := Lib.hid HO.out.2
        have HLEN := Lib.hid HO.out.len
        have hL100 : L ≤ 100 := by omega
        have HAW := Lib.hid HO.out.isAt
        obtain ⟨hkc, hcm⟩ := HO.out.caps
        have hcm2 : cap ≤ 9223372036854775807 := hcm
        have HBACK := Lib.hid fun way hw => asr_back way hw ms HWF.out (by have := HLEN.out; omega)
        have HA20 := Lib.hid fun way => asL_len way ms HWF.out (by have := HLEN.out; omega)
        clear hms hL
        have hk2 : ¬ ((k : Int) < (k : Int)) := by omega
        go_wp2
        obtain ⟨w0, hw0⟩ : ∃ w0, w0 = wr := ⟨wr, rfl⟩
        subst hw0
        go_loopw [7] (fun v wk => ∃ j : Nat, j ≤ 4 ∧ v = .int .u8 (j : Int) ∧ Below w0.heap.size w0 wk) (fun v _ => 4 - (intOf v).toNat)
        case atStart => exact ⟨0, by decide, rfl, Below.refl _ _⟩
        case round =>
          obtain ⟨j, hj4, rfl, hbk⟩ := hrel
          have HBK := Lib.hid hbk
          clear hbk
          by_cases hj : j < 4
          · have HAS := Lib.hid (as_any j hj A L cap ms HLEN hkc hcm (by omega) wr (Lib.hid (HAW.out.keep HBK.out)))
            have HBJ := Lib.hid (HBACK.out j hj)
            have HLJ := Lib.hid (HA20.out j)
            go_wp2_with (first
              | (go_at_call 13; (refine (HAS.out).mono ?_); rintro e w2 ⟨A2, n2, c2, rfl, h1, h2, h3⟩; have HB2 := Lib.hid (below_to HBK.out h2); have hRI := readIntsC_any A2 c2 (asL j ms) n2 (Lib.hid h1.len) (by have := h1.len; have := HLJ.out; have := HLEN.out; omega) h1.caps.1 h1.caps.2 w2 (Lib.hid h1.byAt); rw [HBJ.out] at hRI; have HRI := Lib.hid hRI; clear h1 h2 h3 hRI)
              | (go_at_call 14; (refine (HRI.out).mono ?_); rintro e w3 ⟨⟨A4, n4, c4, rfl, h1⟩, h2⟩; obtain rfl : n4 = L := (by have e1 := h1.len; have e2 := HLEN.out; omega); have HO4 := Lib.hid h1; have HB3 := Lib.hid (below_to HB2.out h2); clear h1 h2)
              | (go_at_call 16; (refine (sameI_any A4 A n4 c4 cap ms HLEN (by omega) _ (Lib.hid HO4.out.isAt) (Lib.hid (HAW.out.keep HB3.out))).mono ?_); rintro e w5 ⟨rfl, hb⟩; have HB5 := Lib.hid (below_to HB3.out hb); clear hb))
            go_roundw
            case rel => exact ⟨j + 1, by omega, by go_num, HB5.out⟩
            case measure => simp [intOf]; omega
          · obtain rfl : j = 4 := by omega
            go_wp2
            go_ret
            exact ⟨rfl, below_to HB.out HBK.out⟩
  · go_enter Try.func9, Try.ntmps9
    go_wp2_with (go_at_call 10; refine (awakeC_any _).mono ?_; rintro e w1 ⟨rfl, hb⟩; first | (have HB2 := Lib.hid (below_to HB1.out hb); clear hb) | (have HB1 := Lib.hid hb; clear hb))
    go_ret
    exact ⟨rfl, HB2.out⟩
theorem columnFar_any (b : Option Addr) (l : List Bool) (n c : Nat) (hn : Hid (n = l.length)) (hnc : n ≤ c) (hc : c ≤ maxLen) (x : Int) (hx : -9223372036854775808 ≤ x ∧ x ≤ 9223372036854775807) (W : World) (HA : Hid (BlAt W b l)) :
    Calls Try.prog 9 #[.slice b n c, .int .i64 x] W fun e w' => e = .returned (.bool true) ∧ Below W.heap.size W w' :=
  columnFar_core b l n c hn hnc hc x hx W HA
end Go.Proofs.Ytplmafbdalkopaa
