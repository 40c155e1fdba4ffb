/-
  The document's Lay; the law PageLays.
-/
import Derived.Test.YtamdonglbdmckaaDoorGn
set_option linter.unusedSimpArgs false
set_option linter.unusedVariables false
namespace Go.Proofs.YtamdonglbdmckaaDoor
open Go.RowKit Go.WideShapes

theorem own_word (w : World) (n : Nat) : OwnS (w.alloc (.cells (fourC n) 5)) w.heap.size (some ⟨w.heap.size, 0, none⟩) 4 4 (Pg.four n) :=
  OwnS.of_row (cs := bys (Pg.four n)) (heap_alloc_new' w _) rfl (by unfold maxLen; omega) rfl rfl (Nat.le_refl _) (Pg.four_lt n)
theorem by_one (w : World) (x : Nat) (hx : x < 256) : ByAt (w.alloc (.cells #[.int .u8 (x : Int)] 5)) (some ⟨w.heap.size, 0, none⟩) [x] :=
  ByAt.of_row _ (fun y hy => by simp at hy; omega) (heap_alloc_new' w _) ⟨[], rfl⟩
theorem grown_below {B : Nat} {w0 w w' : World} {r : Option Nat} (h : Below B w0 w) (hg : w.grownBy w' r) (hB : B ≤ w.heap.size) (hr : ∀ k, r = some k → B ≤ k) : Below B w0 w' := h.grown hg hB hr
theorem OwnS.base {w : World} {B n cap : Nat} {A : Option Addr} {l : List Nat} (h : OwnS w B A n cap l) : ∀ k, A.map (·.block) = some k → B ≤ k := fun k hk => by
  rcases h.1.2 with ⟨h1, h2⟩ | ⟨g, cap', cur, h1, hb, _⟩
  · cases h1; cases hk
  · cases h1; simp at hk; omega

set_option maxHeartbeats 2000000 in
theorem refLay_any (kind : Nat) (b : Option Addr) (m c : Nat) (body : List Nat) (w : World) (hm : Hid (m = body.length)) (hsmall : m ≤ 10000) (hk : kind < 256) (HB : Hid (ByAt w b body)) :
    Calls Tryd.prog 13 #[.int .u8 (kind : Int), .slice b m c] w (RetL w w.heap.size (4 + 1 + m + 4) (Pg.lay kind body)) := by
  have hm32 : m < 4294967296 := by omega
  have hw32 : IntKind.u32.wrap (m : Int) = (m : Int) := by rw [IntKind.wrap_u32']; omega
  have hfl := Lib.hid (Pg.front_lt kind body hk HB.out.lt)
  have HO1 := Lib.hid ((own_word w m).keep (((Below.refl _ _).alloc (Nat.le_refl _) (.cells #[.int .u8 (kind : Int)] 5))))
  have HB1 : Hid (ByAt ((w.alloc (.cells (fourC m) 5)).alloc (.cells #[.int .u8 (kind : Int)] 5)) (some ⟨w.heap.size + 1, 0, none⟩) [kind]) := Lib.hid (by
    have h := by_one (w.alloc (.cells (fourC m) 5)) kind hk
    rwa [show (w.alloc (.cells (fourC m) 5)).heap.size = w.heap.size + 1 by simp] at h)
  have HZ1 : Hid (w.heap.size ≤ ((w.alloc (.cells (fourC m) 5)).alloc (.cells #[.int .u8 (kind : Int)] 5)).heap.size) := Lib.hid (by simp; omega)
  have HW1 : Hid (Below w.heap.size w ((w.alloc (.cells (fourC m) 5)).alloc (.cells #[.int .u8 (kind : Int)] 5))) := Lib.hid (((Below.refl _ _).alloc (Nat.le_refl _) _).alloc (by simp) _)
  have hs32 : Pg.sum (Pg.front kind body) < 4294967296 := Pg.sum_lt hfl.out
  have HF : Hid ((Pg.four m ++ [kind]) ++ body = Pg.front kind body) := Lib.hid (by rw [hm.out]; unfold Pg.front; simp)
  have HFL : Hid (4 + 1 + m = (Pg.front kind body).length) := Lib.hid (by rw [Pg.front_len, hm.out])
  go_enter Tryd.func13, Tryd.ntmps13
  go_wp2_with (first | ((go_at_call 20; (with_reducible refine (four_any m hm32 _).mono ?_); rintro e w6 ⟨rfl, rfl⟩)) | (at_builtin; refine wpList_append_by rfl (.tmp 10) (.tmp 12) rfl w.heap.size (some ⟨w.heap.size, 0, none⟩) 4 4 (Pg.four m) rfl HO1.out (some ⟨w.heap.size + 1, 0, none⟩) 1 1 [kind] rfl rfl HB1.out (by omega) HZ1.out ?_; intro A2 cap2 w2 hO hG hL; have HO2 := Lib.hid hO; have HW2 := Lib.hid (HW1.out.grown hG HZ1.out HO1.out.base); have HB2 := ByAt.at HB HW2.out; have HZ2 := Lib.hid HW2.out.size; clear hO hG hL) | (at_builtin; refine wpList_append_by rfl (.tmp 14) (.tmp 15) rfl w.heap.size A2 (4 + 1) cap2 (Pg.four m ++ [kind]) rfl HO2.out b m c body rfl hm.out HB2.out (by omega) HZ2.out ?_; intro A3 cap3 w3 hO hG hL; rw [HF.out] at hO; have HO3 := Lib.hid hO; have HW3 := Lib.hid (HW2.out.grown hG HZ2.out HO2.out.base); have HZ3 := Lib.hid HW3.out.size; have HA3 := Lib.hid hO.byAt; clear hO hG hL) | (go_at_call 11; refine (refSum_any A3 (Pg.front kind body) (4 + 1 + m) cap3 HFL (by unfold maxLen; omega) w3 HA3).mono ?_; rintro e w6 ⟨rfl, rfl⟩))
  go_wp2_with (first | (go_at_call 20; refine (four_any _ hs32 _).mono ?_; rintro e w6 ⟨rfl, rfl⟩) | (at_builtin; refine wpList_append_by rfl (.tmp 17) (.tmp 20) rfl w.heap.size A3 (4 + 1 + m) cap3 (Pg.front kind body) rfl (HO3.out.keep ((Below.refl _ _).alloc (Nat.le_refl _) _)) (some ⟨w3.heap.size, 0, none⟩) 4 4 (Pg.four (Pg.sum (Pg.front kind body))) rfl rfl (by_four _ _) (by omega) (by_size HZ3) ?_; intro A5 cap5 w5 hO hG hL))
  go_ret
  exact ⟨A5, cap5, ret_eq rfl, hO, (HW3.out.alloc HZ3.out _).grown hG (by_size HZ3) HO3.out.base⟩

theorem pageLays_out (a : Option Addr) (n ca : Nat) (kind : Nat) (b : Option Addr) (m cb : Nat) (hL : 3000 < n + m) (hn : n ≤ 140737488351232) (hm : m ≤ 140737488351232) (W : World) (HG : Hid (HalvesAt W)) :
    Calls Tryd.prog 4 #[.slice a n ca, .int .u8 (kind : Int), .slice b m cb] W fun e w' => e = .returned (.bool true) ∧ Below W.heap.size W w' := by
  go_enter Tryd.func4, Tryd.ntmps4
  go_wp2_with (go_at_call 9; refine (awake_any _ HG).mono ?_; rintro e w1 ⟨rfl, hb⟩; have HB := Lib.hid hb; clear hb; have HG1 := HalvesAt.at HG HB.out)
  go_wp2_with (go_at_call 9; refine (awake_any _ HG1).mono ?_; rintro e w2 ⟨rfl, hb⟩; have HB2 := Lib.hid hb; clear hb)
  go_ret
  exact ⟨ret_eq rfl, below_to HB.out HB2.out⟩

theorem strB_size (l : List Nat) : (strB l).size = l.length := by unfold strB; rw [strOfNums_size, List.length_map]
theorem strB_append (l m : List Nat) : strB l ++ strB m = strB (l ++ m) := by
  apply bytes_inj
  unfold strB
  rw [ByteArray.data_append, Array.toList_append, strOfNums_data, strOfNums_data, strOfNums_data, List.map_append, List.map_append]
theorem page_cut (A : Option Addr) (l : List Nat) (N cap n m kind : Nat) (body : List Nat) (hn : n = l.length) (hm : m = body.length) (hc : n + 5 + m + 4 ≤ cap) :
    ∃ A5 C5, (∀ w, (Instr.slice 22 (.slice A (n + 5 + m + 4) cap) (some (.int .i64 (n : Int))) none none).run Tryd.prog w = .ok (.slice A5 (5 + m + 4) C5) w) ∧ 5 + m + 4 ≤ C5 ∧ C5 ≤ cap ∧ ∀ w, ByAt w A (l ++ Pg.lay kind body) → ByAt w A5 (Pg.lay kind body) := by
  obtain ⟨A5, C5, h1, h2, h3, h4⟩ := cut_from A (n + 5 + m + 4) cap n (by omega) hc
  rw [show n + 5 + m + 4 - n = 5 + m + 4 by omega] at h1 h2
  refine ⟨A5, C5, h1, h2, h3, fun w h => ?_⟩
  have h5 := h4 w _ (by rw [List.length_append, Pg.lay_len]; omega) h
  rwa [hn, List.drop_append_of_le_length (Nat.le_refl _), List.drop_length, List.nil_append] at h5
theorem page_facts (l : List Nat) (n m kind : Nat) (body : List Nat) (hn : n = l.length) (hm : m = body.length) (hk : kind < 256) (hb : ∀ x ∈ body, x < 256) (hs : m ≤ 1048576) :
    Pg.errAt (l ++ Pg.lay kind body) (n : Int) = 0 ∧ Pg.kindAt (l ++ Pg.lay kind body) (n : Int) = kind ∧ Pg.bodyAt (l ++ Pg.lay kind body) (n : Int) = body ∧ Pg.endAt (l ++ Pg.lay kind body) (n : Int) = (n : Int) + 5 + (m : Int) + 4 := by
  obtain ⟨h1, h2, h3, h4⟩ := Pg.read_lay l kind body [] (n : Int) (by rw [hn]) hk hb (by omega)
  rw [List.append_nil] at h1 h2 h3 h4
  exact ⟨h1, h2, h3, by rw [h4, ← hm]; omega⟩
theorem one_facts (kind : Nat) (body : List Nat) (hk : kind < 256) (hb : ∀ x ∈ body, x < 256) (hs : body.length ≤ 1048576) :
    Pg.oneBody (Pg.lay kind body) kind = body ∧ Pg.oneErr (Pg.lay kind body) kind = 0 ∧ Pg.oneErr (Pg.lay kind body) (kind ^^^ 1) = 3 ∧ Pg.oneBody (Pg.lay kind body) (kind ^^^ 1) = [] := by
  obtain ⟨h1, h2, h3, h4⟩ := Pg.read_lay [] kind body [] 0 rfl hk hb hs
  rw [List.append_nil, List.nil_append] at h1 h2 h3 h4
  have e1 : Pg.oneErr (Pg.lay kind body) kind = 0 := by
    unfold Pg.oneErr
    rw [if_neg (by rw [h1]; exact fun h => h rfl), if_pos ⟨h2, by rw [h4, Pg.lay_len]; omega⟩]
  have hne : kind ≠ kind ^^^ 1 := by
    intro h
    have h2 : kind ^^^ (kind ^^^ 1) = 0 := by rw [← h, Nat.xor_self]
    rw [← Nat.xor_assoc, Nat.xor_self, Nat.zero_xor] at h2
    cases h2
  have e2 : Pg.oneErr (Pg.lay kind body) (kind ^^^ 1) = 3 := by
    unfold Pg.oneErr
    rw [if_neg (by rw [h1]; exact fun h => h rfl), if_neg (fun h => hne (by rw [← h.1, h2]))]
  refine ⟨?_, e1, e2, ?_⟩
  · unfold Pg.oneBody; rw [if_pos e1, h3]
  · unfold Pg.oneBody; rw [if_neg (by rw [e2]; decide)]
set_option maxHeartbeats 8000000 in
theorem pageLays_in (a : Option Addr) (l : List Nat) (n ca : Nat) (hn : Hid (n = l.length)) (hca : n ≤ ca) (hla : ca ≤ maxLen) (kind : Nat) (hk : kind < 256) (b : Option Addr) (body : List Nat) (m cb : Nat) (hm : Hid (m = body.length)) (hcb : m ≤ cb) (hlb : cb ≤ maxLen) (hL : n + m ≤ 3000) (W : World) (HA : Hid (ByAt W a l)) (HB : Hid (ByAt W b body)) (HG : Hid (HalvesAt W)) (hW : 0 < W.heap.size) :
    Calls Tryd.prog 4 #[.slice a n ca, .int .u8 (kind : Int), .slice b m cb] W fun e w' => e = .returned (.bool true) ∧ Below W.heap.size W w' := by
  go_enter Tryd.func4, Tryd.ntmps4
  go_wp2_with (first | (go_at_call 9; refine (awake_any _ HG).mono ?_; rintro e w1 ⟨rfl, hb⟩; have HW1 := Lib.hid hb; clear hb; have HG1 := HalvesAt.at HG HW1.out; have HA1 := ByAt.at HA HW1.out; have HB1 := ByAt.at HB HW1.out; have hW1 := Nat.lt_of_lt_of_le hW HW1.out.size) | (at_builtin; refine wpList_append_by rfl (.const (.slice none 0 0)) (.tmp 27) rfl w1.heap.size none 0 0 [] rfl (OwnS.nil w1 w1.heap.size) a n ca l rfl hn.out HA1.out (by omega) (Nat.le_refl _) ?_; intro A2 cap2 w2 hO hG hL2; rw [Nat.zero_add, List.nil_append] at hO; have HO2 := Lib.hid hO; have HW2 : Hid (Below w1.heap.size w1 w2) := Lib.hid ((Below.refl _ _).grown hG (Nat.le_refl _) (by intro k hk; cases hk)); clear hO hG hL2; have HG2 := HalvesAt.at HG1 HW2.out; have HA2 := ByAt.at HA1 HW2.out; have HB2 := ByAt.at HB1 HW2.out; have HZ2 := Lib.hid HW2.out.size))
  go_wp2_with (go_at_call 12; refine (lay_any A2 n cap2 l kind b m cb body w1.heap.size w2 HO2 hm (by omega) hk HB2 HG2 HZ2.out hW1).mono ?_; rintro e w3 ⟨A3, cap3, rfl, hO, hb⟩; have HO3 := Lib.hid hO; have HW3 := Lib.hid (HW2.out.trans hb); clear hO hb; have HG3 := HalvesAt.at HG1 HW3.out; have HA3 := ByAt.at HA1 HW3.out; have HB3 := ByAt.at HB1 HW3.out)
  have hlq : Hid (n + 5 + m + 4 = (l ++ Pg.lay kind body).length) := Lib.hid HO3.out.len
  have c33 : (convert 22 9 (.slice A3 (n + 5 + m + 4) cap3)).run Tryd.prog w3.drew = .ok (.string (strB (l ++ Pg.lay kind body))) w3.drew := conv_by _ _ (HO3.out.byAt.keep (Below.refl _ _).drew) hlq.out
  have c35 : (convert 22 9 (.slice a n ca)).run Tryd.prog w3.drew = .ok (.string (strB l)) w3.drew := conv_by _ _ (HA3.out.keep (Below.refl _ _).drew) hn.out
  have Q33 : Hid (∀ w', Below w3.heap.size w3 w' → (convert 22 9 (.slice A3 (n + 5 + m + 4) cap3)).run Tryd.prog w' = .ok (.string (strB (l ++ Pg.lay kind body))) w') := Lib.hid fun w' hb => conv_by _ _ (HO3.out.byAt.keep hb) hlq.out
  have Q35 : Hid (∀ w', Below w3.heap.size w3 w' → (convert 22 9 (.slice a n ca)).run Tryd.prog w' = .ok (.string (strB l)) w') := Lib.hid fun w' hb => conv_by _ _ (HA3.out.keep hb) hn.out
  have hadd : ∀ w, (Op.stringOp .add (strB l) (strB (Pg.lay kind body))).run Tryd.prog w = .ok (.string (strB (l ++ Pg.lay kind body))) w := fun w => by
    rw [run_string_add_sum (P := Tryd.prog) (w := w) _ _ (by rw [strB_size, strB_size, Pg.lay_len, ← hm.out, ← hn.out]; omega), strB_append]
  generalize strB (l ++ Pg.lay kind body) = sq at *
  generalize strB l = sl at *
  go_region_with ((go_at_call 13; refine (refLay_any kind b m cb body _ hm (by omega) hk (Lib.hid (HB3.out.keep (Below.refl _ _).drew))).mono ?_; rintro e w4 ⟨A4, cap4, rfl, hO, hb⟩; have HO4 := Lib.hid hO; have HW4 : Hid (Below w3.heap.size w3 w4) := Lib.hid ((Below.refl _ _).drew.trans hb); clear hO hb; have d33 := Q33.out w4 HW4.out; have d35 := Q35.out w4 HW4.out; have d39 := conv_by (4 + 1 + m + 4) cap4 HO4.out.byAt HO4.out.len))
  all_goals
    clear d33 d35 d39 HO4
    clear c33 c35 hadd Q33 Q35
    have hcc := HO3.out.caps.1
    have hcap := HO3.out.caps.2
    have HQ4 := ByAt.at (Lib.hid HO3.out.byAt) HW4.out
    have HB4 := ByAt.at HB3 HW4.out
    have HG4 := HalvesAt.at HG3 HW4.out
    obtain ⟨A5, C5, r5, k5, k5', HC5⟩ := page_cut A3 l (n + 5 + m + 4) cap3 n m kind body hn.out hm.out hcc
    obtain ⟨f1, f2, f3, f4⟩ := page_facts l n m kind body hn.out hm.out hk HB.out.lt (by omega)
    obtain ⟨f5, f6, f7, f8⟩ := one_facts kind body hk HB.out.lt (by rw [← hm.out]; omega)
    have HF5 := Lib.hid f5
    have HF3 := Lib.hid f3
    have ex : bits .xor .u8 (kind : Int) 1 = ((kind ^^^ 1 : Nat) : Int) := u8_xor_nat kind 1 hk (by decide)
    generalize kind ^^^ 1 = K1 at *
    go_wp2_with (go_at_call 14; refine (read_any A3 (l ++ Pg.lay kind body) (n + 5 + m + 4) cap3 n hlq hcc hcap _ HQ4 HG4).mono ?_; rintro e w5 ⟨A6, C6, rfl, hA, hc1, hc2, hb⟩; have HW5 := Lib.hid hb; rw [HF3.out] at hA; have H6 := Lib.hid hA; clear hA hb hc1 hc2; have HL5 := Lib.hid (HC5 w5 (HO3.out.byAt.keep (HW4.out.trans (HW5.out.mono HW4.out.size)))); have HG5 := HalvesAt.at HG4 HW5.out)
    have hl5 : Hid (5 + m + 4 = (Pg.lay kind body).length) := Lib.hid (by rw [Pg.lay_len, ← hm.out]; omega)
    have hC5 : C5 ≤ maxLen := Nat.le_trans k5' hcap
    go_wp2_with (go_at_call 15; (with_reducible refine (one_any A5 (Pg.lay kind body) (5 + m + 4) C5 kind hl5 k5 hC5 _ HL5 HG5).mono ?_); rintro e w6 ⟨A7, C7, rfl, hA, hc1, hc2, hb⟩; have HW6 := Lib.hid hb; rw [HF5.out] at hA; have H7 := Lib.hid hA; clear hA hb hc1 hc2; have HL6 := ByAt.at HL5 HW6.out; have HG6 := HalvesAt.at HG5 HW6.out)
    go_wp2_with (go_at_call 15; (with_reducible refine (one_any A5 (Pg.lay kind body) (5 + m + 4) C5 K1 hl5 k5 hC5 _ HL6 HG6).mono ?_); rintro e w7 ⟨A8, C8, rfl, hA, hc1, hc2, hb⟩; have HW7 := Lib.hid hb; clear hA hb hc1 hc2; have v1 := conv_at body.length C6 H6 (HW6.out.trans (HW7.out.mono HW6.out.size)) rfl; have v2 := conv_at body.length C7 H7 HW7.out rfl; have v3 := conv_at m cb HB4 ((HW5.out.trans (HW6.out.mono HW5.out.size)).trans (HW7.out.mono (Nat.le_trans HW5.out.size HW6.out.size))) hm.out)
    go_ret
    exact ⟨ret_eq rfl, below_to (below_to (below_to (below_to (below_to HW1.out HW3.out) HW4.out) HW5.out) HW6.out) HW7.out⟩

theorem pageLays_any (a : Option Addr) (l : List Nat) (n ca : Nat) (hn : Hid (n = l.length)) (hca : n ≤ ca) (hla : ca ≤ maxLen) (kind : Nat) (hk : kind < 256) (b : Option Addr) (body : List Nat) (m cb : Nat) (hm : Hid (m = body.length)) (hcb : m ≤ cb) (hlb : cb ≤ maxLen) (W : World) (HA : Hid (ByAt W a l)) (HB : Hid (ByAt W b body)) (HG : Hid (HalvesAt W)) (rn : n ≤ 140737488351232) (rm : m ≤ 140737488351232) :
    Calls Tryd.prog 4 #[.slice a n ca, .int .u8 (kind : Int), .slice b m cb] W fun e w' => e = .returned (.bool true) ∧ Below W.heap.size W w' := by
  by_cases hL : n + m ≤ 3000
  · exact pageLays_in a l n ca hn hca hla kind hk b body m cb hm hcb hlb hL W HA HB HG (World.block_lt_of_cell? W _ (HG.out 0 (by decide)))
  · exact pageLays_out a n ca kind b m cb (by omega) rn rm W HG
end Go.Proofs.YtamdonglbdmckaaDoor
