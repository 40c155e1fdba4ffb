/-
  Layer merge: SameAll, rows of runs and appends of them, Next of no tree.
-/
import Derived.Test.YtjldamkmdkaiiaaGreatDoorMhK
import Derived.Laws.AppendOwnNone
import Derived.OwnWalk
set_option linter.unusedSimpArgs false
set_option linter.unusedVariables false
set_option maxRecDepth 8000
namespace Go.Proofs.YtjldamkmdkaiiaaGreatDoor
open Go.RowKit Go.Sort
theorem kept_below {B : Nat} {w w' : World} (h : Below B w w') : Kept (fun k => B ≤ k) w w' := ⟨h.os, h.tape, h.output, h.size, fun k hk hn => h.block k (by omega)⟩
theorem OwnE.keptE {S : Nat → Prop} {w w' : World} {B n cap : Nat} {A : Option Addr} {l : List Ev} (h : OwnE w B A n cap l) (hk : Kept S w w') (hS : ∀ k, S k → k < B) : OwnE w' B A n cap l := by
 refine ⟨h.1, ?_⟩
 rcases h.2 with h1 | ⟨g, cap', cur, h1, hb, hrow, h2⟩
 ·exact .inl h1
 ·exact .inr ⟨g, cap', cur, h1, hb, hk.heap hrow (fun e => by have := hS g e; omega), h2⟩
theorem TreeT.keepS {S : Nat → Prop} {w w' : World} {B t rb lb n cr cl win : Nat} {Rs : List (List Ev)} (h : TreeT w B t rb lb n cr cl Rs win) (hk : Kept S w w') (h1 : ¬ S t) (h2 : ¬ S rb) (h3 : ¬ S lb) (h4 : ∀ k, S k → B ≤ k) : TreeT w' B t rb lb n cr cl Rs win := by
 obtain ⟨L, V, g1, g2, g3⟩ := h
 exact ⟨L, V, g1.keepS hk h1 h2 h3 h4, g2, g3⟩
theorem evAt_at2 (w : World) (x : Ev) : EvAt ((w.alloc (.cells #[.int .u64 (x.off : Int), .int .i64 x.part, .int .i64 x.time, .string x.key, .float .f64 x.val] 51)).alloc (.cells #[.int .u64 (x.off : Int), .int .i64 x.part, .int .i64 x.time, .string x.key, .float .f64 x.val] 51)) (some ⟨w.heap.size + 1, 0, none⟩) [x] := by
 have h := evAt_new (w.alloc (.cells #[.int .u64 (x.off : Int), .int .i64 x.part, .int .i64 x.time, .string x.key, .float .f64 x.val] 51)) [x] #[.int .u64 (x.off : Int), .int .i64 x.part, .int .i64 x.time, .string x.key, .float .f64 x.val] rfl 51
 rwa [show (w.alloc (.cells #[.int .u64 (x.off : Int), .int .i64 x.part, .int .i64 x.time, .string x.key, .float .f64 x.val] 51)).heap.size = w.heap.size + 1 by simp] at h
def lenV : Value → Nat
 | .slice _ n _ => n
 | _ => 0
theorem TreeT.next {w : World} {B t rb lb n cr cl win : Nat} {Rs : List (List Ev)} (h : TreeT w B t rb lb n cr cl Rs win) (ho : ∀ r ∈ Rs, Ordered ltM r) :
  n = Rs.length ∧ win < n ∧ (∀ j, j < n → ah ltM (rsF Rs) j win = false) ∧ ((rsF Rs win = [] ∧ Rs.flatten = []) ∨ ∃ x xs, rsF Rs win = x :: xs ∧ Rs[win]? = some (x :: xs) ∧ isort ltM Rs.flatten = x :: isort ltM (Rs.set win xs).flatten ∧ (∀ r ∈ Rs.set win xs, Ordered ltM r) ∧ (Rs.set win xs).flatten.length + 1 = Rs.flatten.length) := by
 obtain ⟨L, V, hT, hTo, hV⟩ := h
 have hwin : win < n := by rw [← hV]; exact hTo.lt' (by decide) (by have := hT.pos; omega)
 have hb : ∀ j, j < n → ah ltM (rsF Rs) j win = false := fun j hj => by have := hTo.win wkE j hj; rw [hV] at this; exact this
 have hR : ∀ j, j < n → Rs[j]? = some (rsF Rs j) := fun j hj => by obtain ⟨l, h1, h2⟩ := hT.at hj; rw [h1, h2]
 refine ⟨hT.len, hwin, hb, ?_⟩
 rcases hx : rsF Rs win with _ | ⟨x, xs⟩
 ·exact .inl ⟨rfl, all_nil Rs hT.len hR win hb hx⟩
 ·right
  have h1 := all_pop wkE Rs hT.len hR ho win hwin hb x xs hx
  have h2 : Rs[win]? = some (x :: xs) := by rw [hR win hwin, hx]
  refine ⟨x, xs, rfl, h2, h1, fun r hr => ?_, ?_⟩
  ·rcases List.mem_or_eq_of_mem_set hr with h9 | h9
   ·exact ho r h9
   ·have := ho _ (List.mem_of_getElem? h2)
    rw [Ordered, List.pairwise_cons] at this
    rw [h9]; exact this.2
  ·have h3 := congrArg List.length h1
   rw [List.length_cons, isort_len, isort_len] at h3; omega
def AllOk (W : World) (Rs : List (List Ev)) (e : Ending) (w' : World) : Prop := ∃ (A : Option Addr) (N cap : Nat), e = .returned (.tuple #[.slice A N cap, .int .i64 0]) ∧ N = Rs.flatten.length ∧ OwnE w' W.heap.size A N cap (isort ltM Rs.flatten) ∧ (A = none → cap = 0) ∧ N ≤ cap ∧ cap ≤ maxLen ∧ Below W.heap.size W w'
def AllEnds (W : World) (Rs : List (List Ev)) (e : Ending) (w' : World) : Prop :=
 if Rs.all (ordB ltM) = true then AllOk W Rs e w' else e = .returned (.tuple #[.slice none 0 0, .int .i64 7]) ∧ Below W.heap.size W w'
def RAl (W : World) (B1 t rb lb n cr cl : Nat) (Rs : List (List Ev)) (u : Value) (wr : World) : Prop :=
 ∃ (dn : List Ev) (Rs' : List (List Ev)) (win : Nat) (A : Option Addr) (k cap : Nat), u = .slice A k cap ∧ k = dn.length ∧ OwnE wr B1 A k cap dn ∧ (A = none → cap = 0) ∧ k ≤ cap ∧ cap ≤ maxLen ∧ TreeT wr W.heap.size t rb lb n cr cl Rs' win ∧ isort ltM Rs.flatten = dn ++ isort ltM Rs'.flatten ∧ (∀ r ∈ Rs', Ordered ltM r) ∧ k + Rs'.flatten.length = Rs.flatten.length ∧ Below W.heap.size W wr ∧ B1 ≤ wr.heap.size
set_option maxHeartbeats 8000000 in
theorem all_any (g off n c : Nat) (Ss : List Sl) (hn : Hid (n = Ss.length)) (hn1 : 0 < n) (hn16 : n ≤ 16) (hnc : n ≤ c) (hcm : c ≤ maxLen) (hfl : Hid ((slL Ss).flatten.length ≤ 900)) (W : World) (HRA : Hid (RunsAt W (some ⟨g, off, none⟩) Ss)) :
  Calls Tryz.prog 73 #[.slice (some ⟨g, off, none⟩) n c] W (AllEnds W (slL Ss)) := by
 have HNW := Lib.hid (new_any g off n c Ss hn hn1 hn16 hnc hcm W HRA)
 rcases ho : (slL Ss).all (ordB ltM) with _ | _
 ·have HNO := Lib.hid ho
  have HNW2 : Hid (Calls Tryz.prog 87 #[.slice (some ⟨g, off, none⟩) n c] W fun e w' => e = .returned (.tuple #[.pointer none, .int .i64 7]) ∧ Below W.heap.size W w') := Lib.hid (HNW.out.mono fun e w' h => by
   unfold NewEnds at h; rw [if_neg (by rw [ho]; decide)] at h; exact h)
  clear ho HNW
  go_enter Tryz.func73, Tryz.ntmps73
  go_wp2_with (go_at_call 87; (with_reducible refine (HNW2.out).mono ?_); rintro e w2 ⟨rfl, hb⟩; have HB := Lib.hid hb; clear hb)
  go_ret2
  show AllEnds W (slL Ss) _ _
  unfold AllEnds
  rw [if_neg (by rw [HNO.out]; decide)]
  exact ⟨rfl, HB.out⟩
 ·have HYES := Lib.hid ho
  have HNW2 : Hid (Calls Tryz.prog 87 #[.slice (some ⟨g, off, none⟩) n c] W (NewOk W n (slL Ss))) := Lib.hid (HNW.out.mono fun e w' h => by
   unfold NewEnds at h; rw [if_pos ho] at h; exact h)
  have HORD : Hid (∀ r ∈ slL Ss, Ordered ltM r) := Lib.hid fun r hr => (ordB_iff wkE r).1 (List.all_eq_true.1 ho r hr)
  clear ho HNW
  go_enter Tryz.func73, Tryz.ntmps73
  go_wp2_with (go_at_call 87; (with_reducible refine (HNW2.out).mono ?_); rintro e w2 ⟨t, rb, lb, cr, cl, win, L, V, rfl, h1, h2, h3, h4⟩; have HT := Lib.hid h1; have HTo := Lib.hid h2; have HV := Lib.hid h3; have HB := Lib.hid h4; clear h1 h2 h3 h4)
  obtain ⟨B1, hB1⟩ : ∃ B1, B1 = w2.heap.size := ⟨_, rfl⟩
  have HLT : Hid (t < B1 ∧ rb < B1 ∧ lb < B1 ∧ W.heap.size ≤ B1) := Lib.hid ⟨by rw [hB1]; exact HT.out.lt, by rw [hB1]; exact HT.out.rrow.lt, by rw [hB1]; exact HT.out.lrow.lt, by rw [hB1]; exact HB.out.size⟩
  have HST : Hid (RAl W B1 t rb lb n cr cl (slL Ss) (.slice none 0 0) w2) := Lib.hid ⟨[], slL Ss, win, none, 0, 0, rfl, rfl, World.ownsRow_nil _ _ _ 5, fun _ => rfl, Nat.le_refl _, Nat.zero_le _, ⟨L, V, HT.out, HTo.out, HV.out⟩, rfl, HORD.out, by simp, HB.out, by rw [hB1]; exact Nat.le_refl _⟩
  obtain ⟨FL, hFL⟩ : ∃ FL, FL = (slL Ss).flatten.length := ⟨_, rfl⟩
  have HFL := Lib.hid hFL
  clear hFL hB1 HT HTo HV HB HNW2 HORD
  go_loopw [6] (fun u wr => RAl W B1 t rb lb n cr cl (slL Ss) u wr) (fun u _ => FL - lenV u)
  case atStart => exact HST.out
  case round =>
   obtain ⟨dn, Rs', win, A, k, cap, rfl, hk, how, hnil, hkc, hcm2, htt, hso, hord, hcnt, hb, hbs⟩ := hrel
   obtain ⟨hlen, hwin, hbest, hnx⟩ := htt.next hord
   have HTT := Lib.hid htt; have HOW := Lib.hid how; have HNIL := Lib.hid hnil; have HSO := Lib.hid hso; have HORD := Lib.hid hord; have HCNT := Lib.hid hcnt; have HB := Lib.hid hb; have HBS := Lib.hid hbs; have HK := Lib.hid hk; have HCAP : Hid (k ≤ cap ∧ cap ≤ maxLen) := Lib.hid ⟨hkc, hcm2⟩
   clear htt how hnil hso hord hcnt hb hbs HST hbest hk hcm2 hlen hwin
   rcases hnx with ⟨hr, hfl0⟩ | ⟨x, xs, hr, hget, hpop, hord2, hlen2⟩
   ·have HN := Lib.hid (next_no W.heap.size t rb lb n cr cl Rs' win hr wr HTT)
    have HFIN : Hid (isort ltM (slL Ss).flatten = dn ∧ k = (slL Ss).flatten.length) := Lib.hid (by
     have h1 := HSO.out; have h2 := HCNT.out
     rw [hfl0] at h1 h2
     exact ⟨by rw [h1]; simp [isort, smerge], by simpa using h2⟩)
    clear hr hfl0
    go_wp2_with (first
     | (go_at_call 88; (with_reducible refine (HN.out).mono ?_); rintro e w3 ⟨rfl, hb3⟩; unfold zEv; have HB3 := Lib.hid hb3; clear hb3)
     | (refine wpList_store_row rfl 51 (.tmp 7) (.tmp 21) rfl w3.heap.size #[.int .u64 0, .int .i64 0, .int .i64 0, .string { data := #[] }, .float .f64 0] rfl rfl _ _ (heap_alloc_newM _ _) iZero rfl oneZ ?_; rw [World.setRow_alloc_new]))
    go_ret2
    show AllEnds W (slL Ss) _ _
    unfold AllEnds
    rw [if_pos HYES.out]
    have hba : Below w3.heap.size w3 (w3.alloc (.cells #[.int .u64 0, .int .i64 0, .int .i64 0, .string { data := #[] }, .float .f64 0] 51)) := (Below.refl _ _).alloc (Nat.le_refl _) _
    refine ⟨A, k, cap, rfl, HFIN.out.2, ?_, HNIL.out, HCAP.out.1, HCAP.out.2, bto (bto HB.out HB3.out) hba⟩
    rw [HFIN.out.1]
    exact ((HOW.out.keptE (S := fun _ => False) (Kept.of_below HB3.out) (fun k hk => hk.elim)).keptE (S := fun _ => False) (Kept.of_below hba) (fun k hk => hk.elim)).less HLT.out.2.2.2
   ·have HN := Lib.hid (next_yes W.heap.size t rb lb n cr cl Rs' win x xs hr wr HTT)
    have HPOP := Lib.hid hpop; have HO2 := Lib.hid hord2; have HL2 := Lib.hid hlen2
    have hk9 : k + 1 ≤ 900 := by have := HCNT.out; have := hfl.out; omega
    have hkF : k < FL := by have := HCNT.out; have := HFL.out; omega
    clear hr hget hpop hord2 hlen2
    go_wp2_with (first
     | (go_at_call 88; (with_reducible refine (HN.out).mono ?_); rintro e w3 ⟨rfl, ⟨win', ht3⟩, hk3⟩; have HT3 := Lib.hid ht3; have HK3 := Lib.hid hk3; have HOW3 := Lib.hid (HOW.out.keptE hk3 (fun k hk => by have := HLT.out; rcases hk with rfl | rfl | rfl <;> omega)); have HOWA := Lib.hid ((HOW3.out.keptE (S := fun _ => False) (Kept.of_below ((Below.refl w3.heap.size w3).alloc (Nat.le_refl _) (.cells #[.int .u64 (x.off : Int), .int .i64 x.part, .int .i64 x.time, .string x.key, .float .f64 x.val] 51))) (fun k hk => hk.elim)).alloc (.cells #[.int .u64 (x.off : Int), .int .i64 x.part, .int .i64 x.time, .string x.key, .float .f64 x.val] 51)); have hbs3 : B1 ≤ ((w3.alloc (.cells #[.int .u64 (x.off : Int), .int .i64 x.part, .int .i64 x.time, .string x.key, .float .f64 x.val] 51)).alloc (.cells #[.int .u64 (x.off : Int), .int .i64 x.part, .int .i64 x.time, .string x.key, .float .f64 x.val] 51)).heap.size := (by have := HBS.out; have := hk3.size; simp; omega); clear ht3 hk3)
     | (refine wpList_store_row rfl 51 (.tmp 7) (.tmp 21) rfl w3.heap.size #[.int .u64 (x.off : Int), .int .i64 x.part, .int .i64 x.time, .string x.key, .float .f64 x.val] rfl rfl _ _ (heap_alloc_newM _ _) (iEvA x) rfl (oneEvA x) ?_; rw [World.setRow_alloc_new])
     | (refine wpList_load_row rfl 51 (.tmp 7) rfl w3.heap.size rfl _ #[.int .u64 (x.off : Int), .int .i64 x.part, .int .i64 x.time, .string x.key, .float .f64 x.val] (0, 0) _ (heap_alloc_newM _ _) uEvent rfl (iEvA x) ?_)
     | (at_builtin; refine wpList_append_ev rfl (.tmp 27) (.tmp 29) rfl B1 A k cap dn rfl HOWA.out (some ⟨w3.heap.size + 1, 0, none⟩) 1 1 [x] rfl rfl (evAt_at2 w3 x) (fun h => by cases h) (k + 1) rfl (by omega) hbs3 ?_; intro A4 c4 w4 ho4 hc4 hm4 hn4 hb4; have HO4 := Lib.hid ho4; have HB4 := Lib.hid hb4; have HN4 := Lib.hid hn4; clear ho4 hb4 hn4))
    go_roundw
    case rel =>
     have hba : Below w3.heap.size w3 ((w3.alloc (.cells #[.int .u64 (x.off : Int), .int .i64 x.part, .int .i64 x.time, .string x.key, .float .f64 x.val] 51)).alloc (.cells #[.int .u64 (x.off : Int), .int .i64 x.part, .int .i64 x.time, .string x.key, .float .f64 x.val] 51)) := ((Below.refl _ _).alloc (Nat.le_refl _) _).alloc (by simp) _
     obtain ⟨L3, V3, hT3, hTo3, hV3⟩ := HT3.out
     have hl := HLT.out
     have hb3 : Below W.heap.size W w3 := HB.out.trans (HK3.out.below (B := W.heap.size) HB.out.size fun k hk => by
      rcases hk with rfl | rfl | rfl
      ·exact hT3.bt
      ·exact hT3.br
      ·exact hT3.bl)
     refine ⟨dn ++ [x], Rs'.set win xs, win', A4, k + 1, c4, rfl, by rw [List.length_append, List.length_singleton, HK.out], HO4.out, HN4.out, hc4, hm4, (HT3.out.keepS (S := fun _ => False) (Kept.of_below hba) id id id (fun k hk => hk.elim)).keepS (kept_below HB4.out) (by omega) (by omega) (by omega) (fun k hk => by have := hT3.bt; omega), ?_, HO2.out, ?_, (bto hb3 hba).trans (HB4.out.mono hl.2.2.2), Nat.le_trans hbs3 HB4.out.size⟩
     ·rw [HSO.out, HPOP.out]; simp
     ·have := HL2.out; have := HCNT.out; omega
    case measure => simp [lenV]; omega
structure SlIn (w : World) (s : Sl) : Prop where
 cap : s.l.length ≤ s.c
 cap' : s.c ≤ maxLen
 nil : s.A = none → s.c = 0
 at' : EvAt w s.A s.l
structure RunsIn (w : World) (a : Option Addr) (Ss : List Sl) : Prop where
 cell : ∀ (j : Nat) (s : Sl), Ss[j]? = some s → ∃ g off, a = some ⟨g, off, none⟩ ∧ g < w.heap.size ∧ w.cell? ⟨g, off + j, none⟩ = some s.v
 ok : ∀ s ∈ Ss, SlIn w s
theorem RunsIn.keep {w w' : World} {a : Option Addr} {Ss : List Sl} (h : RunsIn w a Ss) (hb : Below w.heap.size w w') : RunsIn w' a Ss := by
 refine ⟨fun j s hs => ?_, fun s hs => ⟨(h.ok s hs).cap, (h.ok s hs).cap', (h.ok s hs).nil, (h.ok s hs).at'.keep hb⟩⟩
 obtain ⟨g, off, h2, h3, h4⟩ := h.cell j s hs
 exact ⟨g, off, h2, Nat.lt_of_lt_of_le h3 hb.size, (hb.cell (p := ⟨g, off + j, none⟩) h3).trans h4⟩
theorem RunsIn.to {w : World} {a : Option Addr} {Ss : List Sl} (h : RunsIn w a Ss) (hs : ∀ s ∈ Ss, s.l.length ≤ 1000) : RunsAt w a Ss :=
 ⟨h.cell, fun s hs2 => ⟨(h.ok s hs2).cap, (h.ok s hs2).cap', (h.ok s hs2).nil, (h.ok s hs2).at', hs s hs2⟩⟩
def RowAtM (w : World) (g n : Nat) : Prop := ∃ cs : Array Value, w.heap[g]? = some (.cells cs 51 (0, 0)) ∧ n * 5 ≤ cs.size
theorem RowAtM.cell {w : World} {g n : Nat} (h : RowAtM w g n) (i : Nat) (hi : i < n * 5) : (∃ v, w.cell? ⟨g, i, none⟩ = some v) ∧ w.frozen? ⟨g, i, none⟩ = false := by
 obtain ⟨cs, h1, h2⟩ := h
 exact ⟨⟨cs[i]'(by omega), by rw [cell_of_row _ _ _ _ _ _ h1, Array.getElem?_eq_getElem (by omega)]⟩, frozen_of_row _ _ _ _ _ h1⟩
theorem RowAtM.set {w : World} {g n i : Nat} {v : Value} (h : RowAtM w g n) : RowAtM (w.setCell ⟨g, i, none⟩ v) g n := by
 obtain ⟨cs, h1, h2⟩ := h
 exact ⟨cs.setIfInBounds i v, heap_setCell_same w g i cs _ v h1, by simpa using h2⟩
def OwnR (w : World) (B : Nat) (A : Option Addr) (n cap : Nat) (Ss : List Sl) : Prop := w.ownsRow B 22 1 (.slice A n cap) n (slV Ss)
structure SlOwn (w : World) (B : Nat) (s : Sl) : Prop where
 own : OwnE w B s.A s.l.length s.c s.l
 cap : s.l.length ≤ s.c
 cap' : s.c ≤ maxLen
 nil : s.A = none → s.c = 0
 small : s.l.length ≤ 1000
theorem SlOwn.ok {w : World} {B : Nat} {s : Sl} (h : SlOwn w B s) : SlOk w s := ⟨h.cap, h.cap', h.nil, h.own.at', h.small⟩
theorem SlOwn.below {w w' : World} {B : Nat} {s : Sl} (h : SlOwn w B s) (hb : Below w.heap.size w w') : SlOwn w' B s := ⟨h.own.keptE (S := fun _ => False) (Kept.of_below hb) (fun k hk => hk.elim), h.cap, h.cap', h.nil, h.small⟩
theorem OwnR.below {w w' : World} {B n cap : Nat} {A : Option Addr} {Ss : List Sl} (h : OwnR w B A n cap Ss) (hb : Below w.heap.size w w') : OwnR w' B A n cap Ss := by
 refine ⟨h.1, ?_⟩
 rcases h.2 with h1 | ⟨g, cap', cur, h1, hb', hrow, h2⟩
 ·exact .inl h1
 ·exact .inr ⟨g, cap', cur, h1, hb', (Kept.of_below (S := fun _ => False) hb).heap hrow (fun e => e), h2⟩
theorem SlOwn.beside {w w' : World} {B B' n cap : Nat} {A : Option Addr} {Ss : List Sl} {s : Sl} (h : SlOwn w B s) (hr : OwnR w B' A n cap Ss) (hg : w.grownBy w' ((Value.slice A n cap).ownBlock)) : SlOwn w' B s := by
 refine ⟨⟨h.own.1, ?_⟩, h.cap, h.cap', h.nil, h.small⟩
 rcases h.own.2 with h1 | ⟨g, cap', cur, h1, hb', hrow, h2⟩
 ·exact .inl h1
 ·refine .inr ⟨g, cap', cur, h1, hb', (hg.block g (Array.getElem?_eq_some_iff.1 hrow).1 fun e => ?_).trans hrow, h2⟩
  rcases hr.2 with ⟨e0, e1⟩ | ⟨g3, cap3, cur3, e0, -, hrow3, -⟩
  ·rw [e0] at e; cases e
  ·rw [e0] at e
   have e : g = g3 := by simpa [Value.ownBlock] using e
   subst e
   rw [hrow] at hrow3; injection hrow3 with hrow3
   injection hrow3 with x1 x2 x3
   exact absurd x2 (by decide)
theorem OwnR.beside {w w' : World} {B n cap n2 cap2 : Nat} {A A2 : Option Addr} {Ss : List Sl} (h : OwnR w B A n cap Ss) (hB : ∀ k, A.map (·.block) = some k → some k ≠ A2.map (·.block)) (hg : w.grownBy w' ((Value.slice A2 n2 cap2).ownBlock)) : OwnR w' B A n cap Ss := by
 refine ⟨h.1, ?_⟩
 rcases h.2 with h1 | ⟨g, cap', cur, h1, hb', hrow, h2⟩
 ·exact .inl h1
 ·injection h1 with e1 e2 e3
  refine .inr ⟨g, cap', cur, by rw [e1, e3], hb', (hg.block g (Array.getElem?_eq_some_iff.1 hrow).1 fun e => ?_).trans hrow, h2⟩
  refine hB g (by rw [e1]; rfl) ?_
  rcases A2 with _ | a2
  ·cases e
  ·have e : g = a2.block := by simpa [Value.ownBlock] using e
   rw [e]; rfl
theorem OwnR.len {w : World} {B n cap : Nat} {A : Option Addr} {Ss : List Sl} (h : OwnR w B A n cap Ss) : n = Ss.length := by have := h.1; unfold slV at this; rw [List.length_map] at this; omega
theorem OwnR.caps {w : World} {B n cap : Nat} {A : Option Addr} {Ss : List Sl} (h : OwnR w B A n cap Ss) : n ≤ cap ∧ cap ≤ maxLen := by
 rcases h.2 with ⟨h1, h2⟩ | ⟨g, cap', cur, h1, -, -, h2, h3, -⟩
 ·cases h1; exact ⟨by omega, Nat.zero_le _⟩
 ·cases h1; exact ⟨h2, h3⟩
theorem OwnR.cell {w : World} {B n cap : Nat} {A : Option Addr} {Ss : List Sl} (h : OwnR w B A n cap Ss) (j : Nat) (s : Sl) (hs : Ss[j]? = some s) : ∃ g off, A = some ⟨g, off, none⟩ ∧ g < w.heap.size ∧ w.cell? ⟨g, off + j, none⟩ = some s.v := by
 rcases h.2 with ⟨e0, e1⟩ | ⟨g, cap', cur, e0, hb, hrow, hn, hm, hsz, ht⟩
 ·have := h.len; have := (List.getElem?_eq_some_iff.1 hs).1; omega
 ·injection e0 with a1 a2 a3
  refine ⟨g, 0, a1, (Array.getElem?_eq_some_iff.1 hrow).1, ?_⟩
  rw [cell_of_row _ _ _ _ _ _ hrow, Nat.zero_add, ← Array.getElem?_toList]
  have hj := (List.getElem?_eq_some_iff.1 hs).1
  have hl := h.len
  have e : (cur.toList.take (n * 1))[j]? = (slV Ss)[j]? := by rw [ht]
  rw [List.getElem?_take, if_pos (by omega)] at e
  rw [e]; unfold slV; rw [List.getElem?_map, hs]; rfl
theorem OwnR.runs {w : World} {B B' n cap : Nat} {A : Option Addr} {Ss : List Sl} (h : OwnR w B A n cap Ss) (hs : ∀ s ∈ Ss, SlOwn w B' s) : RunsAt w A Ss := ⟨h.cell, fun s h2 => (hs s h2).ok⟩
theorem OwnR.nil (w : World) (B : Nat) : OwnR w B none 0 0 [] := World.ownsRow_nil _ _ _ 1
theorem OwnR.base {w : World} {B n cap : Nat} {A : Option Addr} {Ss : List Sl} (h : OwnR w B A n cap Ss) : ∀ k, A.map (·.block) = some k → B ≤ k ∧ k < w.heap.size := fun k hk => by
 rcases h.2 with ⟨e0, e1⟩ | ⟨g, cap', cur, e0, hb, hrow, -⟩
 ·injection e0 with a1; rw [a1] at hk; cases hk
 ·injection e0 with a1; rw [a1] at hk; simp at hk; subst hk; exact ⟨hb, (Array.getElem?_eq_some_iff.1 hrow).1⟩
theorem wpList_append_run {w : World} {ops : Array Oper} {rest : List Oper} {o : Oper} {ac : Act} {Q : Exit → Act → World → Prop} (hgd : o.guard = none) (s x : Operand)
  (ho : o.op = .call { callee := .builtin .append, args := #[s, x], argTypes := #[114, 114] })
  (B : Nat) (A : Option Addr) (n cap : Nat) (Ss : List Sl) (hs : ac.eval s = .slice A n cap) (hown : OwnR w B A n cap Ss) (b : Nat) (sl : Sl) (hx : ac.eval x = .slice (some ⟨b, 0, none⟩) 1 1) (hc : w.cell? ⟨b, 0, none⟩ = some sl.v)
  (hbytes : n + 1 ≤ 1000) (hbase : B ≤ w.heap.size)
  (h : ∀ A' cap' w', OwnR w' B A' (n + 1) cap' (Ss ++ [sl]) → w.grownBy w' ((Value.slice A n cap).ownBlock) → Below B w w' → (∀ k, A'.map (·.block) = some k → A.map (·.block) = some k ∨ w.heap.size ≤ k) → wpList Tryz.prog ops Q rest (ac.put o.dst (.slice A' (n + 1) cap')) w') : wpList Tryz.prog ops Q (o :: rest) ac w := by
 obtain ⟨i0, hi, hz0, hz1, hz2⟩ := info_parts infoSl
 refine wpList_append_own_at w hgd s x 114 ho B 22 i0 _ 1 24 Tryz.underlying114 hi hz0 hz1 hz2 rfl (by decide) (.slice A n cap) n (slV Ss) hs hown ⟨b, 0, none⟩ 1 1 [sl.v] hx rfl (fun j u hu => by
  rcases j with _ | j
  ·injection hu with hu; subst hu; rw [Addr.add_lit]; exact hc
  ·simp at hu) (fun u hu => by rw [List.mem_singleton.1 hu]; rfl) (by unfold maxLen; omega) (by omega) hbase ?_
 intro v' w2 hown2 hgr h5 h6
 have e : slV Ss ++ [sl.v] = slV (Ss ++ [sl]) := by unfold slV; rw [List.map_append]; rfl
 rw [e] at hown2
 rcases hown2.2 with ⟨e0, e1⟩ | ⟨g, cap', cur, e0, hb', hrow, h7⟩
 ·omega
 ·subst e0
  refine h (some ⟨g, 0, none⟩) cap' w2 hown2 hgr ((Below.refl B w).grown hgr hbase (fun k hk => ?_)) (fun k hk => ?_)
  ·rcases hown.2 with ⟨e2, -⟩ | ⟨g2, cap2, cur2, e2, hb2, -⟩
   ·rw [e2] at hk; cases hk
   ·rw [e2] at hk; have hk : g2 = k := by simpa [Value.ownBlock] using hk
    omega
  ·have hk : g = k := by simpa using hk
   subst hk
   rcases h6 with h6 | h6
   ·left
    rcases A with _ | a
    ·cases h6
    ·have h6 : g = a.block := by simpa [Value.ownBlock] using h6
     rw [h6]; rfl
   ·right
    have h6 : g = w.heap.size := by simpa [Value.ownBlock] using h6
    omega
end Go.Proofs.YtjldamkmdkaiiaaGreatDoor
