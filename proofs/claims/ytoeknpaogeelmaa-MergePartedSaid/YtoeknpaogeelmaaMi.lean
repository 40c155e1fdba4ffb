/-
  Layer merge: All.
-/
import Derived.Test.YtoeknpaogeelmaaMh
set_option linter.unusedSimpArgs false
set_option linter.unusedVariables false
set_option maxRecDepth 8000
namespace Go.Proofs.Ytoeknpaogeelmaa
open Go.RowKit Go.Sort

theorem kept_below {B : Nat} {w w' : World} (h : Below B w w') : Kept (fun k => B ≤ k) w w' := ⟨h.os, h.tape, h.output, h.size, fun k hk hn => h.block k (by omega)⟩
theorem OwnE.keptE {S : Nat → Prop} {w w' : World} {B n cap : Nat} {A : Option Addr} {l : List Ev} (h : OwnE w B A n cap l) (hk : Kept S w w') (hS : ∀ k, S k → k < B) : OwnE w' B A n cap l := by
  refine ⟨h.1, ?_⟩
  rcases h.2 with h1 | ⟨g, cap', cur, h1, hb, hrow, h2⟩
  · exact .inl h1
  · exact .inr ⟨g, cap', cur, h1, hb, hk.heap hrow (fun e => by have := hS g e; omega), h2⟩
theorem TreeT.keepS {S : Nat → Prop} {w w' : World} {B t rb lb n cr cl win : Nat} {Rs : List (List Ev)} (h : TreeT w B t rb lb n cr cl Rs win) (hk : Kept S w w') (h1 : ¬ S t) (h2 : ¬ S rb) (h3 : ¬ S lb) (h4 : ∀ k, S k → B ≤ k) : TreeT w' B t rb lb n cr cl Rs win := by
  obtain ⟨L, V, g1, g2, g3⟩ := h
  exact ⟨L, V, g1.keepS hk h1 h2 h3 h4, g2, g3⟩
theorem evAt_at2 (w : World) (x : Ev) : EvAt ((w.alloc (.cells #[.int .u64 (x.off : Int), .int .i64 x.part, .int .i64 x.time, .string x.key, .float .f64 x.val] 38)).alloc (.cells #[.int .u64 (x.off : Int), .int .i64 x.part, .int .i64 x.time, .string x.key, .float .f64 x.val] 38)) (some ⟨w.heap.size + 1, 0, none⟩) [x] := by
  have h := evAt_new (w.alloc (.cells #[.int .u64 (x.off : Int), .int .i64 x.part, .int .i64 x.time, .string x.key, .float .f64 x.val] 38)) [x] #[.int .u64 (x.off : Int), .int .i64 x.part, .int .i64 x.time, .string x.key, .float .f64 x.val] rfl 38
  rwa [show (w.alloc (.cells #[.int .u64 (x.off : Int), .int .i64 x.part, .int .i64 x.time, .string x.key, .float .f64 x.val] 38)).heap.size = w.heap.size + 1 by simp] at h
def lenV : Value → Nat
  | .slice _ n _ => n
  | _ => 0
/-- What a tree tells of the next one. -/
theorem TreeT.next {w : World} {B t rb lb n cr cl win : Nat} {Rs : List (List Ev)} (h : TreeT w B t rb lb n cr cl Rs win) (ho : ∀ r ∈ Rs, Ordered ltM r) :
    n = Rs.length ∧ win < n ∧ (∀ j, j < n → ah ltM (rsF Rs) j win = false) ∧ ((rsF Rs win = [] ∧ Rs.flatten = []) ∨ ∃ x xs, rsF Rs win = x :: xs ∧ Rs[win]? = some (x :: xs) ∧ isort ltM Rs.flatten = x :: isort ltM (Rs.set win xs).flatten ∧ (∀ r ∈ Rs.set win xs, Ordered ltM r) ∧ (Rs.set win xs).flatten.length + 1 = Rs.flatten.length) := by
  obtain ⟨L, V, hT, hTo, hV⟩ := h
  have hwin : win < n := by rw [← hV]; exact hTo.lt' (by decide) (by have := hT.pos; omega)
  have hb : ∀ j, j < n → ah ltM (rsF Rs) j win = false := fun j hj => by have := hTo.win wkE j hj; rw [hV] at this; exact this
  have hR : ∀ j, j < n → Rs[j]? = some (rsF Rs j) := fun j hj => by obtain ⟨l, h1, h2⟩ := hT.at hj; rw [h1, h2]
  refine ⟨hT.len, hwin, hb, ?_⟩
  rcases hx : rsF Rs win with _ | ⟨x, xs⟩
  · exact .inl ⟨rfl, all_nil Rs hT.len hR win hb hx⟩
  · right
    have h1 := all_pop wkE Rs hT.len hR ho win hwin hb x xs hx
    have h2 : Rs[win]? = some (x :: xs) := by rw [hR win hwin, hx]
    refine ⟨x, xs, rfl, h2, h1, fun r hr => ?_, ?_⟩
    · rcases List.mem_or_eq_of_mem_set hr with h9 | h9
      · exact ho r h9
      · have := ho _ (List.mem_of_getElem? h2)
        rw [Ordered, List.pairwise_cons] at this
        rw [h9]; exact this.2
    · have h3 := congrArg List.length h1
      rw [List.length_cons, isort_len, isort_len] at h3; omega
/-- How All ends. -/
def AllOk (W : World) (Rs : List (List Ev)) (e : Ending) (w' : World) : Prop := ∃ (A : Option Addr) (N cap : Nat), e = .returned (.tuple #[.slice A N cap, .int .i64 0]) ∧ N = Rs.flatten.length ∧ OwnE w' W.heap.size A N cap (isort ltM Rs.flatten) ∧ (A = none → cap = 0) ∧ N ≤ cap ∧ cap ≤ maxLen ∧ Below W.heap.size W w'
def AllEnds (W : World) (Rs : List (List Ev)) (e : Ending) (w' : World) : Prop :=
  if Rs.all (ordB ltM) = true then AllOk W Rs e w' else e = .returned (.tuple #[.slice none 0 0, .int .i64 7]) ∧ Below W.heap.size W w'
def RAl (W : World) (B1 t rb lb n cr cl : Nat) (Rs : List (List Ev)) (u : Value) (wr : World) : Prop :=
  ∃ (dn : List Ev) (Rs' : List (List Ev)) (win : Nat) (A : Option Addr) (k cap : Nat), u = .slice A k cap ∧ k = dn.length ∧ OwnE wr B1 A k cap dn ∧ (A = none → cap = 0) ∧ k ≤ cap ∧ cap ≤ maxLen ∧ TreeT wr W.heap.size t rb lb n cr cl Rs' win ∧ isort ltM Rs.flatten = dn ++ isort ltM Rs'.flatten ∧ (∀ r ∈ Rs', Ordered ltM r) ∧ k + Rs'.flatten.length = Rs.flatten.length ∧ Below W.heap.size W wr ∧ B1 ≤ wr.heap.size
set_option maxHeartbeats 8000000 in
theorem all_any (g off n c : Nat) (Ss : List Sl) (hn : Hid (n = Ss.length)) (hn1 : 0 < n) (hn16 : n ≤ 16) (hnc : n ≤ c) (hcm : c ≤ maxLen) (hfl : Hid ((slL Ss).flatten.length ≤ 900)) (W : World) (HRA : Hid (RunsAt W (some ⟨g, off, none⟩) Ss)) :
    Calls Try.prog 11 #[.slice (some ⟨g, off, none⟩) n c] W (AllEnds W (slL Ss)) := by
  have HNW := Lib.hid (new_any g off n c Ss hn hn1 hn16 hnc hcm W HRA)
  rcases ho : (slL Ss).all (ordB ltM) with _ | _
  · have HNO := Lib.hid ho
    have HNW2 : Hid (Calls Try.prog 10 #[.slice (some ⟨g, off, none⟩) n c] W fun e w' => e = .returned (.tuple #[.pointer none, .int .i64 7]) ∧ Below W.heap.size W w') := Lib.hid (HNW.out.mono fun e w' h => by
      unfold NewEnds at h; rw [if_neg (by rw [ho]; decide)] at h; exact h)
    clear ho HNW
    go_enter Try.func11, Try.ntmps11
    go_wp2_with (go_at_call 10; (with_reducible refine (HNW2.out).mono ?_); rintro e w2 ⟨rfl, hb⟩; have HB := Lib.hid hb; clear hb)
    go_ret2
    show AllEnds W (slL Ss) _ _
    unfold AllEnds
    rw [if_neg (by rw [HNO.out]; decide)]
    exact ⟨rfl, HB.out⟩
  · have HYES := Lib.hid ho
    have HNW2 : Hid (Calls Try.prog 10 #[.slice (some ⟨g, off, none⟩) n c] W (NewOk W n (slL Ss))) := Lib.hid (HNW.out.mono fun e w' h => by
      unfold NewEnds at h; rw [if_pos ho] at h; exact h)
    have HORD : Hid (∀ r ∈ slL Ss, Ordered ltM r) := Lib.hid fun r hr => (ordB_iff wkE r).1 (List.all_eq_true.1 ho r hr)
    clear ho HNW
    go_enter Try.func11, Try.ntmps11
    go_wp2_with (go_at_call 10; (with_reducible refine (HNW2.out).mono ?_); rintro e w2 ⟨t, rb, lb, cr, cl, win, L, V, rfl, h1, h2, h3, h4⟩; have HT := Lib.hid h1; have HTo := Lib.hid h2; have HV := Lib.hid h3; have HB := Lib.hid h4; clear h1 h2 h3 h4)
    obtain ⟨B1, hB1⟩ : ∃ B1, B1 = w2.heap.size := ⟨_, rfl⟩
    have HLT : Hid (t < B1 ∧ rb < B1 ∧ lb < B1 ∧ W.heap.size ≤ B1) := Lib.hid ⟨by rw [hB1]; exact HT.out.lt, by rw [hB1]; exact HT.out.rrow.lt, by rw [hB1]; exact HT.out.lrow.lt, by rw [hB1]; exact HB.out.size⟩
    have HST : Hid (RAl W B1 t rb lb n cr cl (slL Ss) (.slice none 0 0) w2) := Lib.hid ⟨[], slL Ss, win, none, 0, 0, rfl, rfl, World.ownsRow_nil _ _ _ 5, fun _ => rfl, Nat.le_refl _, Nat.zero_le _, ⟨L, V, HT.out, HTo.out, HV.out⟩, rfl, HORD.out, by simp, HB.out, by rw [hB1]; exact Nat.le_refl _⟩
    obtain ⟨FL, hFL⟩ : ∃ FL, FL = (slL Ss).flatten.length := ⟨_, rfl⟩
    have HFL := Lib.hid hFL
    clear hFL hB1 HT HTo HV HB HNW2 HORD
    go_loopw [6] (fun u wr => RAl W B1 t rb lb n cr cl (slL Ss) u wr) (fun u _ => FL - lenV u)
    case atStart => exact HST.out
    case round =>
      obtain ⟨dn, Rs', win, A, k, cap, rfl, hk, how, hnil, hkc, hcm2, htt, hso, hord, hcnt, hb, hbs⟩ := hrel
      obtain ⟨hlen, hwin, hbest, hnx⟩ := htt.next hord
      have HTT := Lib.hid htt; have HOW := Lib.hid how; have HNIL := Lib.hid hnil; have HSO := Lib.hid hso; have HORD := Lib.hid hord; have HCNT := Lib.hid hcnt; have HB := Lib.hid hb; have HBS := Lib.hid hbs; have HK := Lib.hid hk; have HCAP : Hid (k ≤ cap ∧ cap ≤ maxLen) := Lib.hid ⟨hkc, hcm2⟩
      clear htt how hnil hso hord hcnt hb hbs HST hbest hk hcm2 hlen hwin
      rcases hnx with ⟨hr, hfl0⟩ | ⟨x, xs, hr, hget, hpop, hord2, hlen2⟩
      · have HN := Lib.hid (next_no W.heap.size t rb lb n cr cl Rs' win hr wr HTT)
        have HFIN : Hid (isort ltM (slL Ss).flatten = dn ∧ k = (slL Ss).flatten.length) := Lib.hid (by
          have h1 := HSO.out; have h2 := HCNT.out
          rw [hfl0] at h1 h2
          exact ⟨by rw [h1]; simp [isort, smerge], by simpa using h2⟩)
        clear hr hfl0
        go_wp2_with (first
          | (go_at_call 13; (with_reducible refine (HN.out).mono ?_); rintro e w3 ⟨rfl, hb3⟩; unfold zEv; have HB3 := Lib.hid hb3; clear hb3)
          | (refine wpList_store_row rfl 38 (.tmp 7) (.tmp 21) rfl w3.heap.size #[.int .u64 0, .int .i64 0, .int .i64 0, .string { data := #[] }, .float .f64 0] rfl rfl _ _ (heap_alloc_newM _ _) iZero rfl oneZ ?_; rw [World.setRow_alloc_new]))
        go_ret2
        show AllEnds W (slL Ss) _ _
        unfold AllEnds
        rw [if_pos HYES.out]
        have hba : Below w3.heap.size w3 (w3.alloc (.cells #[.int .u64 0, .int .i64 0, .int .i64 0, .string { data := #[] }, .float .f64 0] 38)) := (Below.refl _ _).alloc (Nat.le_refl _) _
        refine ⟨A, k, cap, rfl, HFIN.out.2, ?_, HNIL.out, HCAP.out.1, HCAP.out.2, bto (bto HB.out HB3.out) hba⟩
        rw [HFIN.out.1]
        exact ((HOW.out.keptE (S := fun _ => False) (Kept.of_below HB3.out) (fun k hk => hk.elim)).keptE (S := fun _ => False) (Kept.of_below hba) (fun k hk => hk.elim)).less HLT.out.2.2.2
      · have HN := Lib.hid (next_yes W.heap.size t rb lb n cr cl Rs' win x xs hr wr HTT)
        have HPOP := Lib.hid hpop; have HO2 := Lib.hid hord2; have HL2 := Lib.hid hlen2
        have hk9 : k + 1 ≤ 900 := by have := HCNT.out; have := hfl.out; omega
        have hkF : k < FL := by have := HCNT.out; have := HFL.out; omega
        clear hr hget hpop hord2 hlen2
        go_wp2_with (first
          | (go_at_call 13; (with_reducible refine (HN.out).mono ?_); rintro e w3 ⟨rfl, ⟨win', ht3⟩, hk3⟩; have HT3 := Lib.hid ht3; have HK3 := Lib.hid hk3; have HOW3 := Lib.hid (HOW.out.keptE hk3 (fun k hk => by have := HLT.out; rcases hk with rfl | rfl | rfl <;> omega)); have HOWA := Lib.hid ((HOW3.out.keptE (S := fun _ => False) (Kept.of_below ((Below.refl w3.heap.size w3).alloc (Nat.le_refl _) (.cells #[.int .u64 (x.off : Int), .int .i64 x.part, .int .i64 x.time, .string x.key, .float .f64 x.val] 38))) (fun k hk => hk.elim)).alloc (.cells #[.int .u64 (x.off : Int), .int .i64 x.part, .int .i64 x.time, .string x.key, .float .f64 x.val] 38)); have hbs3 : B1 ≤ ((w3.alloc (.cells #[.int .u64 (x.off : Int), .int .i64 x.part, .int .i64 x.time, .string x.key, .float .f64 x.val] 38)).alloc (.cells #[.int .u64 (x.off : Int), .int .i64 x.part, .int .i64 x.time, .string x.key, .float .f64 x.val] 38)).heap.size := (by have := HBS.out; have := hk3.size; simp; omega); clear ht3 hk3)
          | (refine wpList_store_row rfl 38 (.tmp 7) (.tmp 21) rfl w3.heap.size #[.int .u64 (x.off : Int), .int .i64 x.part, .int .i64 x.time, .string x.key, .float .f64 x.val] rfl rfl _ _ (heap_alloc_newM _ _) (iEvA x) rfl (oneEvA x) ?_; rw [World.setRow_alloc_new])
          | (refine wpList_load_row rfl 38 (.tmp 7) rfl w3.heap.size rfl _ #[.int .u64 (x.off : Int), .int .i64 x.part, .int .i64 x.time, .string x.key, .float .f64 x.val] (0, 0) _ (heap_alloc_newM _ _) uEvent rfl (iEvA x) ?_)
          | (at_builtin; refine wpList_append_ev rfl (.tmp 27) (.tmp 29) rfl B1 A k cap dn rfl HOWA.out (some ⟨w3.heap.size + 1, 0, none⟩) 1 1 [x] rfl rfl (evAt_at2 w3 x) (fun h => by cases h) (k + 1) rfl (by omega) hbs3 ?_; intro A4 c4 w4 ho4 hc4 hm4 hn4 hb4; have HO4 := Lib.hid ho4; have HB4 := Lib.hid hb4; have HN4 := Lib.hid hn4; clear ho4 hb4 hn4))
        go_roundw
        case rel =>
          have hba : Below w3.heap.size w3 ((w3.alloc (.cells #[.int .u64 (x.off : Int), .int .i64 x.part, .int .i64 x.time, .string x.key, .float .f64 x.val] 38)).alloc (.cells #[.int .u64 (x.off : Int), .int .i64 x.part, .int .i64 x.time, .string x.key, .float .f64 x.val] 38)) := ((Below.refl _ _).alloc (Nat.le_refl _) _).alloc (by simp) _
          obtain ⟨L3, V3, hT3, hTo3, hV3⟩ := HT3.out
          have hl := HLT.out
          have hb3 : Below W.heap.size W w3 := HB.out.trans (HK3.out.below (B := W.heap.size) HB.out.size fun k hk => by
            rcases hk with rfl | rfl | rfl
            · exact hT3.bt
            · exact hT3.br
            · exact hT3.bl)
          refine ⟨dn ++ [x], Rs'.set win xs, win', A4, k + 1, c4, rfl, by rw [List.length_append, List.length_singleton, HK.out], HO4.out, HN4.out, hc4, hm4, (HT3.out.keepS (S := fun _ => False) (Kept.of_below hba) id id id (fun k hk => hk.elim)).keepS (kept_below HB4.out) (by omega) (by omega) (by omega) (fun k hk => by have := hT3.bt; omega), ?_, HO2.out, ?_, (bto hb3 hba).trans (HB4.out.mono hl.2.2.2), Nat.le_trans hbs3 HB4.out.size⟩
          · rw [HSO.out, HPOP.out]; simp
          · have := HL2.out; have := HCNT.out; omega
        case measure => simp [lenV]; omega
end Go.Proofs.Ytoeknpaogeelmaa
