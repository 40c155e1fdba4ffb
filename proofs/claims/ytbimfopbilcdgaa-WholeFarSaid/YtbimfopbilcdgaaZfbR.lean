/-
  Layer whole: WholeFar.
-/
import Derived.Test.YtbimfopbilcdgaaZqoR
import Derived.Test.YtbimfopbilcdgaaZfaR
import Derived.Test.YtbimfopbilcdgaaInR
set_option linter.unusedSimpArgs false
set_option linter.unusedVariables false
set_option maxRecDepth 8000
namespace Go.Proofs.Ytbimfopbilcdgaa
open Go.RowKit Go.Sort Sm

/-- A number as a float64. -/
def flI (k : Nat) : Nat := floatOfInt FloatKind.f64 (k : Int)
theorem flI_lt : ∀ k, k < 13 → flI k < 18446744073709551616 := by decide +kernel
/-- A far event's key. -/
def keyF (ks : List Nat) (k : Nat) : ByteArray := match ks[k]? with | some v => strB [v % 3] | none => ByteArray.empty
def evF (ts : List Int) (ks : List Nat) (k : Nat) : Ev := ⟨k, 0, (match ts[k]? with | some t => t.tmod 1099511627777 | none => 0), keyF ks k, flI k⟩
def farL (ts : List Int) (ks : List Nat) (k : Nat) : List Ev := (List.range k).map (evF ts ks)
theorem farL_succ (ts : List Int) (ks : List Nat) (k : Nat) : farL ts ks (k + 1) = farL ts ks k ++ [evF ts ks k] := by unfold farL; rw [List.range_succ, List.map_append]; rfl
theorem farL_len (ts : List Int) (ks : List Nat) (k : Nat) : (farL ts ks k).length = k := by unfold farL; simp
theorem tmod_near (t : Int) : -1099511627776 ≤ t.tmod 1099511627777 ∧ t.tmod 1099511627777 ≤ 1099511627776 := by
  rw [Int.tmod_eq_emod]
  have h1 := Int.emod_nonneg t (b := 1099511627777) (by omega)
  have h2 := Int.emod_lt_of_pos t (b := 1099511627777) (by omega)
  split <;> omega
theorem farL_fit (ts : List Int) (ks : List Nat) (k : Nat) (hk : k ≤ 12) : EvFit (farL ts ks k) := by
  refine ⟨fun x hx => ?_, fun x hx => ?_, by rw [farL_len]; omega⟩
  · unfold farL at hx
    obtain ⟨i, hi, rfl⟩ := List.mem_map.1 hx
    exact flI_lt i (by have := List.mem_range.1 hi; omega)
  · unfold farL at hx
    obtain ⟨i, hi, rfl⟩ := List.mem_map.1 hx
    show -4398046511104 ≤ (evF ts ks i).time ∧ (evF ts ks i).time ≤ 4398046511104
    unfold evF
    dsimp only
    split
    · rename_i t _; have := tmod_near t; omega
    · omega
theorem wpList_append_ev1 {w : World} {ops : Array Oper} {rest : List Oper} {o : Oper} {a : Act} {Q : Exit → Act → World → Prop} (hgd : o.guard = none) (s x : Operand)
    (ho : o.op = .call { callee := .builtin .append, args := #[s, x], argTypes := #[66, 66] })
    (B : Nat) (A : Option Addr) (n cap : Nat) (l : List Ev) (hs : a.eval s = .slice A n cap) (hown : OwnE w B A n cap l) (h c : Nat) (y : Ev) (hx : a.eval x = .slice (some ⟨h, 0, none⟩) 1 c) (hrow : w.heap[h]? = some (.cells y.cells.toArray 76 (0, 0)))
    (N : Nat) (hN : N = n + 1) (hn : n + 1 ≤ 100000) (hbase : B ≤ w.heap.size)
    (hk : ∀ A' cap' w', OwnE w' B A' N cap' (l ++ [y]) → Below B w w' → wpList Try.prog ops Q rest (a.put o.dst (.slice A' N cap')) w') : wpList Try.prog ops Q (o :: rest) a w :=
  wpList_plain hgd fun K hK => wp_append_ev1 s x ho B A n cap l hs hown h c y hx hrow N hN hn hbase fun A' cap' w' h1 h2 h3 h4 h5 => hK _ _ (hk A' cap' w' h1 h5)
set_option maxHeartbeats 8000000 in
theorem far_any (c : Cf) (hin : c.In) (at' : Option Addr) (nt ct : Nat) (ts : List Int) (hnt : nt = ts.length) (ak : Option Addr) (nk ck : Nat) (ks : List Nat) (hnk : nk = ks.length) (W : World) (HT : Hid (IsAt W at' ts)) (HKS : Hid (ByAt W ak ks)) :
    Calls Try.prog 5 #[c.v, .slice at' nt ct, .slice ak nk ck] W fun e w' => e = .returned (.bool true) ∧ Below W.heap.size W w' := by
  have HAWK := Lib.hid awake13_any
  have HNT := Lib.hid hnt
  have HNK := Lib.hid hnk
  obtain ⟨W1, hW1⟩ : ∃ q, q = W.alloc (.cells #[.int .u8 (c.kind : Int), .int .i64 c.size, .int .i64 c.step, .int .i64 c.late, .int .i64 c.skew, .int .i64 c.parts, .int .u64 (c.cut : Int)] 64) := ⟨_, rfl⟩
  obtain ⟨bc, hbc⟩ : ∃ q, q = W.heap.size := ⟨_, rfl⟩
  have HWX : Hid (Below W.heap.size W W1) := Lib.hid (by rw [hW1]; exact (Below.refl _ _).alloc (Nat.le_refl _) _)
  have HRX : Hid (W1.heap[bc]? = some (.cells #[.int .u8 (c.kind : Int), .int .i64 c.size, .int .i64 c.step, .int .i64 c.late, .int .i64 c.skew, .int .i64 c.parts, .int .u64 (c.cut : Int)] 64 (0, 0))) := Lib.hid (by rw [hW1, hbc]; exact heap_new W _)
  clear hnt hnk
  by_cases h12 : nt ≤ 12
  rotate_left
  · have h12' : (12 : Int) < (nt : Int) := by omega
    clear h12
    go_enter Try.func5, Try.ntmps5
    go_upto_region 1 with fail
    rw [← hW1, ← hbc]
    clear hW1 hbc
    go_upto_region 2 with (first | (go_at_call 37; (with_reducible refine (HAWK.out _).mono ?_); rintro e w1 ⟨rfl, hb1⟩; have HB1 := Lib.hid (HWX.out.trans (hb1.mono HWX.out.size)); have HR1 := Lib.hid (row_keep HRX.out hb1); clear hb1))
    go_wp2_with (first | (go_at_call 37; (with_reducible refine (HAWK.out _).mono ?_); rintro e w3 ⟨rfl, hb3⟩; have HB3 := Lib.hid (bto HB1.out hb3); clear hb3))
    go_ret
    exact ⟨rfl, HB3.out⟩
  have hdd : decide ((12 : Int) < (nt : Int)) = false := decide_eq_false (by omega)
  by_cases hok : c.Ok
  rotate_left
  · have HFO : Hid (∀ w, Calls Try.prog 43 #[c.v] w fun e w' => e = .returned (.bool false) ∧ Below w.heap.size w w') := Lib.hid fun w => (formW_any c hin w).mono fun e w' ⟨⟨b, h1, h2⟩, h3⟩ => ⟨by
      rcases b with _ | _
      · exact h1
      · exact absurd (h2 rfl) hok, h3⟩
    clear hok hin
    go_enter Try.func5, Try.ntmps5
    go_upto_region 1 with fail
    rw [← hW1, ← hbc]
    clear hW1 hbc
    go_upto_region 2 with (first | (go_at_call 37; (with_reducible refine (HAWK.out _).mono ?_); rintro e w1 ⟨rfl, hb1⟩; have HB1 := Lib.hid (HWX.out.trans (hb1.mono HWX.out.size)); have HR1 := Lib.hid (row_keep HRX.out hb1); clear hb1) | (refine wpList_load_rowG (by rfl) 64 (.tmp 3) rfl bc rfl _ #[.int .u8 (c.kind : Int), .int .i64 c.size, .int .i64 c.step, .int .i64 c.late, .int .i64 c.skew, .int .i64 c.parts, .int .u64 (c.cut : Int)] (0, 0) _ HR1.out uCf rfl (by kernel_rfl) ?_) | (go_at_call 43; (with_reducible refine (HFO.out _).mono ?_); rintro e w2 ⟨rfl, hb2⟩; have HB2 := Lib.hid (bto HB1.out hb2); have HR2 := Lib.hid (row_keep HR1.out hb2); clear hb2))
    go_wp2_with (first | (go_at_call 37; (with_reducible refine (HAWK.out _).mono ?_); rintro e w3 ⟨rfl, hb3⟩; have HB3 := Lib.hid (bto HB2.out hb3); clear hb3))
    go_ret
    exact ⟨rfl, HB3.out⟩
  have HC := Lib.hid hok
  have HFO := Lib.hid fun w => formW_yes c hok w
  clear hok hin
  go_enter Try.func5, Try.ntmps5
  go_upto_region 1 with fail
  rw [← hW1, ← hbc]
  clear hW1 hbc
  go_upto_region 3 with (first | (go_at_call 37; (with_reducible refine (HAWK.out _).mono ?_); rintro e w1 ⟨rfl, hb1⟩; have HB1 := Lib.hid (HWX.out.trans (hb1.mono HWX.out.size)); have HR1 := Lib.hid (row_keep HRX.out hb1); clear hb1) | (refine wpList_load_rowG (by rfl) 64 (.tmp 3) rfl bc rfl _ #[.int .u8 (c.kind : Int), .int .i64 c.size, .int .i64 c.step, .int .i64 c.late, .int .i64 c.skew, .int .i64 c.parts, .int .u64 (c.cut : Int)] (0, 0) _ HR1.out uCf rfl (by kernel_rfl) ?_) | (go_at_call 43; (with_reducible refine (HFO.out _).mono ?_); rintro e w2 ⟨rfl, hb2⟩; have HB2 := Lib.hid (bto HB1.out hb2); have HR2 := Lib.hid (row_keep HR1.out hb2); clear hb2))
  go_wp2
  clear HWX HRX HB1 HR1
  go_loopw [7, 8] (fun o i wr => ∃ (k : Nat) (A : Option Addr) (cap : Nat), k ≤ nt ∧ o = .slice A k cap ∧ i = .int .i64 k ∧ OwnE wr w2.heap.size A k cap (farL ts ks k) ∧ Below w2.heap.size w2 wr) (fun _ i _ => nt - (intOf i).toNat)
  case atStart => exact ⟨0, none, 0, Nat.zero_le _, rfl, rfl, World.ownsRow_nil _ _ _ 5, Below.refl _ _⟩
  case round =>
    obtain ⟨k, Al, cl, hk, rfl, rfl, hoe, hb⟩ := hrel
    have HOE := Lib.hid hoe; have HB := Lib.hid hb
    clear hoe hb
    by_cases hgo : k < nt
    · obtain ⟨t, ht⟩ : ∃ t, ts[k]? = some t := ⟨ts[k]'(by have := HNT.out; omega), List.getElem?_eq_getElem _⟩
      obtain ⟨hwf, gt, ot, hat, hgt, hct⟩ := HT.out k t ht
      subst hat
      have HWr : Hid (Below W.heap.size W wr) := Lib.hid (bto HB2.out HB.out)
      have hc : wr.cell? ⟨gt, ot + k, none⟩ = some (.int .i64 t) := (HWr.out.cell (p := ⟨gt, ot + k, none⟩) hgt).trans hct
      have hnear := tmod_near t
      have hn1 := hnear.1
      have hn2 := hnear.2
      obtain ⟨fl, hfl⟩ : ∃ q, q = flI k := ⟨_, rfl⟩
      have hcv : ∀ w, (convert 3 74 (.int .i64 (k : Int))).run Try.prog w = .ok (.float .f64 fl) w := fun w => by
        rw [hfl]; go_simp; rfl
      have HEV : Hid (evF ts ks k = ⟨k, 0, t.tmod 1099511627777, keyF ks k, fl⟩) := Lib.hid (by unfold evF; rw [ht, hfl])
      have HSU := Lib.hid (farL_succ ts ks k)
      rw [HEV.out] at HSU
      have hkI : (k : Int) < (nt : Int) := by omega
      clear ht hgt hct hnear hfl HEV hwf
      go_upto_region 8 with (first
        | (refine wpList_store_row rfl 76 (.tmp 9) (.tmp 38) rfl _ #[.int .u64 (k : Int), .int .i64 0, .int .i64 (t.tmod 1099511627777), .string ByteArray.empty, .float .f64 fl] rfl rfl _ _ (heap_alloc_new _ _) (by kernel_rfl) rfl (by simp [Value.oneCell']) ?_; rw [World.setRow_alloc_new]))
      obtain ⟨wk, hwk⟩ : ∃ wk, wk = wr.alloc (.cells #[.int .u64 (k : Int), .int .i64 0, .int .i64 (t.tmod 1099511627777), .string ByteArray.empty, .float .f64 fl] 76) := ⟨_, rfl⟩
      obtain ⟨bg, hbg⟩ : ∃ bg, bg = wr.heap.size := ⟨_, rfl⟩
      rw [← hwk, ← hbg]
      have HRG : Hid (wk.heap[bg]? = some (.cells #[.int .u64 (k : Int), .int .i64 0, .int .i64 (t.tmod 1099511627777), .string ByteArray.empty, .float .f64 fl] 76 (0, 0))) := Lib.hid (by rw [hwk, hbg]; exact heap_new wr _)
      have HBk : Hid (Below bg wr wk) := Lib.hid (by rw [hwk, hbg]; exact (Below.refl _ _).alloc (Nat.le_refl _) _)
      have HBGr : Hid (bg = wr.heap.size) := Lib.hid hbg
      have HSK : Hid (wk.heap.size = bg + 1) := Lib.hid (by rw [hwk, hbg]; simp)
      have HWk : Hid (Below W.heap.size W wk) := Lib.hid (HWr.out.trans (HBk.out.mono (by rw [hbg]; exact HWr.out.size)))
      have HWG : Hid (w2.heap.size ≤ bg) := Lib.hid (by rw [hbg]; exact HB.out.size)
      clear hwk hbg hcv hc hn1 hn2
      obtain ⟨tm, htm⟩ : ∃ q, q = t.tmod 1099511627777 := ⟨_, rfl⟩
      rw [← htm] at HRG HSU ⊢
      clear htm
      by_cases hkk : k < nk
      · obtain ⟨v, hv⟩ : ∃ v, ks[k]? = some v := ⟨ks[k]'(by have := HNK.out; omega), List.getElem?_eq_getElem _⟩
        obtain ⟨hv256, gk, ok, hak, hgk, hck⟩ := HKS.out k v hv
        subst hak
        have hkc : wk.cell? ⟨gk, ok + k, none⟩ = some (.int .u8 (v : Int)) := (HWk.out.cell (p := ⟨gk, ok + k, none⟩) hgk).trans hck
        obtain ⟨r, hr⟩ : ∃ r : Nat, r = v % 3 := ⟨_, rfl⟩
        have hr1 : (v : Int) % 3 = (r : Int) := by omega
        have hr2 : (v : Int).tmod 3 = (r : Int) := by rw [Int.tmod_eq_emod_of_nonneg (by omega)]; exact hr1
        have hr256 : r < 256 := by omega
        obtain ⟨kb, hkb⟩ : ∃ kb, kb = strB [r] := ⟨_, rfl⟩
        have HKB : Hid (kb = keyF ks k) := Lib.hid (by unfold keyF; rw [hv, hkb, hr])
        have hconv : (convert 32 9 (.slice (some ⟨wk.heap.size, 0, none⟩) 1 1)).run Try.prog (wk.alloc (.cells #[.int .u8 (r : Int)] 5)) = .ok (.string kb) (wk.alloc (.cells #[.int .u8 (r : Int)] 5)) := by rw [hkb]; exact conv_by 1 1 (by_one wk r hr256) rfl
        have HRa : Hid ((wk.alloc (.cells #[.int .u8 (r : Int)] 5)).heap[bg]? = some (.cells #[.int .u64 (k : Int), .int .i64 0, .int .i64 tm, .string ByteArray.empty, .float .f64 fl] 76 (0, 0))) := Lib.hid (row_alloc' HRG.out _)
        have d3 : (wk.alloc (.cells #[.int .u8 (r : Int)] 5)).cell? ⟨bg, 3, none⟩ = some (.string ByteArray.empty) := (zrow HRa.out) 3 _ rfl
        have d4 : (wk.alloc (.cells #[.int .u8 (r : Int)] 5)).frozen? ⟨bg, 3, none⟩ = false := row_frozen HRa.out 3
        have hkI2 : (k : Int) < (nk : Int) := by omega
        clear hv hgk hck hr hkb
        go_upto_region 10 with fail
        obtain ⟨w6, hw6⟩ : ∃ q, q = (wk.alloc (.cells #[.int .u8 (r : Int)] 5)).setCell ⟨bg, 3, none⟩ (.string kb) := ⟨_, rfl⟩
        rw [← hw6]
        clear d3 d4 hconv hkc
        have HR6 : Hid (w6.heap[bg]? = some (.cells #[.int .u64 (k : Int), .int .i64 0, .int .i64 tm, .string kb, .float .f64 fl] 76 (0, 0))) := Lib.hid (by rw [hw6]; exact row_set (cs := [.int .u64 (k : Int), .int .i64 0, .int .i64 tm, .string ByteArray.empty, .float .f64 fl]) HRa.out 3 _)
        have HBr6 : Hid (Below bg wr w6) := Lib.hid (by rw [hw6]; exact (HBk.out.alloc (by have := HSK.out; omega) _).setCell (p := ⟨bg, 3, none⟩) (Nat.le_refl _) _)
        have HO6 : Hid (OwnE w6 w2.heap.size Al k cl (farL ts ks k)) := Lib.hid (ownE_keep HOE.out (by rw [← HBGr.out]; exact HBr6.out))
        have HB6 : Hid (Below w2.heap.size w2 w6) := Lib.hid (HB.out.trans (HBr6.out.mono HWG.out))
        have hs6 : w2.heap.size ≤ w6.heap.size := HB6.out.size
        clear hw6 hr1 hr2
        go_wp2_with (first
          | (refine wpList_load_row rfl 76 (.tmp 9) rfl bg rfl _ #[.int .u64 (k : Int), .int .i64 0, .int .i64 tm, .string kb, .float .f64 fl] (0, 0) _ HR6.out uEv rfl (by kernel_rfl) ?_)
          | (at_builtin; refine wpList_append_ev1 rfl _ _ rfl w2.heap.size Al k cl (farL ts ks k) rfl (ownE_keep HO6.out ((Below.refl _ _).alloc (Nat.le_refl _) _)) w6.heap.size 1 ⟨k, 0, tm, kb, fl⟩ rfl (heap_new w6 _) (k + 1) rfl (by omega) (by simp; omega) ?_; intro A9 c9 w9 ho9 hb9; have HO9 := Lib.hid ho9; have HB9 := Lib.hid ((HB6.out.alloc hs6 _).trans hb9); clear ho9 hb9))
        go_roundw
        case rel => exact ⟨k + 1, A9, c9, by omega, rfl, by go_num, by rw [HSU.out, ← HKB.out]; exact HO9.out, HB9.out⟩
        case measure => simp [intOf]; omega
      · have hkI2 : ¬ ((k : Int) < (nk : Int)) := by omega
        have HKB : Hid (ByteArray.empty = keyF ks k) := Lib.hid (by unfold keyF; rw [List.getElem?_eq_none (by have := HNK.out; omega)])
        go_upto_region 10 with fail
        obtain ⟨w6, hw6⟩ : ∃ q, q = wk := ⟨_, rfl⟩
        rw [← hw6] at HRG HBk ⊢
        have HR6 := HRG
        have HBr6 := HBk
        have HO6 : Hid (OwnE w6 w2.heap.size Al k cl (farL ts ks k)) := Lib.hid (ownE_keep HOE.out (by rw [← HBGr.out]; exact HBr6.out))
        have HB6 : Hid (Below w2.heap.size w2 w6) := Lib.hid (HB.out.trans (HBr6.out.mono HWG.out))
        have hs6 : w2.heap.size ≤ w6.heap.size := HB6.out.size
        clear hw6
        go_wp2_with (first
          | (refine wpList_load_row rfl 76 (.tmp 9) rfl bg rfl _ #[.int .u64 (k : Int), .int .i64 0, .int .i64 tm, .string ByteArray.empty, .float .f64 fl] (0, 0) _ HR6.out uEv rfl (by kernel_rfl) ?_)
          | (at_builtin; refine wpList_append_ev1 rfl _ _ rfl w2.heap.size Al k cl (farL ts ks k) rfl (ownE_keep HO6.out ((Below.refl _ _).alloc (Nat.le_refl _) _)) w6.heap.size 1 ⟨k, 0, tm, ByteArray.empty, fl⟩ rfl (heap_new w6 _) (k + 1) rfl (by omega) (by simp; omega) ?_; intro A9 c9 w9 ho9 hb9; have HO9 := Lib.hid ho9; have HB9 := Lib.hid ((HB6.out.alloc hs6 _).trans hb9); clear ho9 hb9))
        go_roundw
        case rel => exact ⟨k + 1, A9, c9, by omega, rfl, by go_num, by rw [HSU.out, ← HKB.out]; exact HO9.out, HB9.out⟩
        case measure => simp [intOf]; omega
    · obtain ⟨l, hl⟩ : ∃ q, q = farL ts ks k := ⟨_, rfl⟩
      have HFT : Hid (EvFit l) := Lib.hid (by rw [hl]; exact farL_fit ts ks k (by omega))
      have HOL : Hid (OwnE wr w2.heap.size Al k cl l) := Lib.hid (by rw [hl]; exact HOE.out)
      have HRC4 : Hid (wr.heap[bc]? = some (.cells #[.int .u8 (c.kind : Int), .int .i64 c.size, .int .i64 c.step, .int .i64 c.late, .int .i64 c.skew, .int .i64 c.parts, .int .u64 (c.cut : Int)] 64 (0, 0))) := Lib.hid (row_keep HR2.out HB.out)
      have HB4 : Hid (Below W.heap.size W wr) := Lib.hid (bto HB2.out HB.out)
      obtain ⟨nl, hnl⟩ : ∃ q, q = k := ⟨_, rfl⟩
      rw [← hnl] at HOL
      have HP1 : Hid (∀ w, Below wr.heap.size wr w → Calls Try.prog 41 #[c.v, .slice Al nl cl] w (PzEnds w (panesL c l))) := Lib.hid fun w hw => panes13_any c HC.out Al nl cl l HFT.out w (Lib.hid ((evSl_own HOL.out).keep hw))
      have HP2 : Hid (∀ w, Below wr.heap.size wr w → Calls Try.prog 42 #[c.v, .slice Al nl cl] w (DPEnds w (addA (dIts c l l)))) := Lib.hid fun w hw => dpanes_any c HC.out Al nl cl l HFT.out w _ (Lib.hid (ownE_keep HOL.out hw))
      have HDA : Hid (∀ ps, DocP (addA (dIts c l l)) ps → Alk (panesL c l) ps) := Lib.hid fun ps hd => doc_is HC.out HFT.out hd
      have HPOK := Lib.hid (pz_ok HC.out HFT.out)
      have HFEW := Lib.hid (pz_few HC.out HFT.out)
      subst hnl
      clear hl
      have hkI2 : ¬ ((nl : Int) < (nt : Int)) := by omega
      go_upto_region 11 with fail
      refine wp_region_held_drew (S := fun w' => Below wr.heap.size wr w') (by kernel_rfl) ((Below.refl _ wr).drew) (fun hHeld => ?_)
      refine wpAnyH_take (i := 0) (v := .agg #[.int .u8 (c.kind : Int), .int .i64 c.size, .int .i64 c.step, .int .i64 c.late, .int .i64 c.skew, .int .i64 c.parts, .int .u64 (c.cut : Int)]) rfl (by kernel_rfl) (by kernel_rfl) (by kernel_rfl) (fun _ _ _ h => h) (yieldsIf_row rfl 64 (.tmp 3) rfl bc rfl _ _ _ _ (fun w hw => row_keep HRC4.out hw) uCf rfl (by kernel_rfl)) hHeld ?_
      try dsimp only
      try simp only [Act.put, List.getElem_toArray, List.getElem_cons_zero, List.getElem_cons_succ, List.setIfInBounds_toArray, List.set_cons_zero, List.set_cons_succ]
      refine wpAnyH_take (i := 1) (v := .slice Al nl cl) rfl (by kernel_rfl) (by kernel_rfl) (by kernel_rfl) (fun _ _ _ h => h) (Or.inl ⟨by rfl, fun _ _ => rfl⟩) hHeld ?_
      try dsimp only
      try simp only [Act.put, List.getElem_toArray, List.getElem_cons_zero, List.getElem_cons_succ, List.setIfInBounds_toArray, List.set_cons_zero, List.set_cons_succ]
      refine wpAnyH_take (i := 3) (v := .agg #[.int .u8 (c.kind : Int), .int .i64 c.size, .int .i64 c.step, .int .i64 c.late, .int .i64 c.skew, .int .i64 c.parts, .int .u64 (c.cut : Int)]) rfl (by kernel_rfl) (by kernel_rfl) (by kernel_rfl) (fun _ _ _ h => h) (yieldsIf_row rfl 64 (.tmp 3) rfl bc rfl _ _ _ _ (fun w hw => row_keep HRC4.out hw) uCf rfl (by kernel_rfl)) hHeld ?_
      try dsimp only
      try simp only [Act.put, List.getElem_toArray, List.getElem_cons_zero, List.getElem_cons_succ, List.setIfInBounds_toArray, List.set_cons_zero, List.set_cons_succ]
      refine wpAnyH_take (i := 4) (v := .slice Al nl cl) rfl (by kernel_rfl) (by kernel_rfl) (by kernel_rfl) (fun _ _ _ h => h) (Or.inl ⟨by rfl, fun _ _ => rfl⟩) hHeld ?_
      try dsimp only
      try simp only [Act.put, List.getElem_toArray, List.getElem_cons_zero, List.getElem_cons_succ, List.setIfInBounds_toArray, List.set_cons_zero, List.set_cons_succ]
      refine wpAnyH_ready (rs := [2]) (by kernel_rfl) (by simp) (AllReadyH.cons rfl (fun K hK => ?_) AllReadyH.nil)
      go_simp
      refine (HP1.out _ hHeld).mono ?_
      rintro e v1 ⟨A1, n1, c1, rfl, hn1, -, -, -, ho1, hb1⟩
      replace hHeld := bto hHeld hb1
      have HN1 := Lib.hid hn1
      have HO1 := Lib.hid ho1
      clear hn1 ho1 hb1
      refine hK.out _ _ hHeld (fun hHeld => ?_)
      clear hK K
      try dsimp only
      try simp only [Act.put, List.getElem_toArray, List.getElem_cons_zero, List.getElem_cons_succ, List.setIfInBounds_toArray, List.set_cons_zero, List.set_cons_succ]
      refine wpAnyH_ready (rs := [5]) (by kernel_rfl) (by simp) (AllReadyH.cons rfl (fun K hK => ?_) AllReadyH.nil)
      go_simp
      refine (HP2.out _ hHeld).mono ?_
      rintro e v2 ⟨A2, n2, c2, ps2, rfl, ho2, hd2, hb2⟩
      replace hHeld := bto hHeld hb2
      have HO1b := Lib.hid (HO1.out.below hb2 (fun g' off e => (HO1.out.lt g' off e).1))
      have HO2 := Lib.hid ho2
      have HAL := Lib.hid (HDA.out _ hd2)
      have HOK2 := Lib.hid hd2.ok
      have h12 : n2 = n1 := by have h1 := ho2.len; have h2 := HAL.out.len; have h3 := HN1.out; omega
      subst h12
      clear ho2 hd2 hb2
      refine hK.out _ _ hHeld (fun hHeld => ?_)
      clear hK K
      try dsimp only
      try simp only [Act.put, List.getElem_toArray, List.getElem_cons_zero, List.getElem_cons_succ, List.setIfInBounds_toArray, List.set_cons_zero, List.set_cons_succ]
      refine wpAnyH_ready (rs := [6]) (by kernel_rfl) (by simp) (AllReadyH.cons rfl (fun K hK => ?_) AllReadyH.nil)
      go_simp
      refine (rsameZ A1 A2 n2 c1 c2 _ _ (panesL c l) ps2 (by have h1 := HN1.out; have h2 := HFEW.out; omega) HPOK.out HOK2.out HAL.out _ HO1b HO2).mono ?_
      rintro e v3 ⟨rfl, hb3⟩
      replace hHeld := bto hHeld hb3
      refine hK.out _ _ hHeld (fun hHeld => ?_)
      clear hK K
      try dsimp only
      try simp only [Act.put, List.getElem_toArray, List.getElem_cons_zero, List.getElem_cons_succ, List.setIfInBounds_toArray, List.set_cons_zero, List.set_cons_succ]
      refine wpAnyH_ready (rs := [7]) (by kernel_rfl) (by simp) (AllReadyH.cons rfl (fun K hK => ?_) AllReadyH.nil)
      go_simp
      refine hK.out _ _ hHeld (fun _ => ?_)
      clear hK K
      refine wpAnyH_done (by kernel_rfl) ?_ _
      go_wp2
      go_ret
      exact ⟨rfl, HB4.out.trans (hHeld.mono HB4.out.size)⟩
end Go.Proofs.Ytbimfopbilcdgaa
