/-
  Layer sorter: readRun of a run's bytes, and take.
-/
import Derived.Test.YtjldamkmdkaiiaaGreatDoorIkK
import Derived.Test.YtjldamkmdkaiiaaGreatDoorOeK
import Derived.Test.YtjldamkmdkaiiaaGreatDoorMhK
import Derived.Laws.AppendOwnNone
import Derived.OwnWalk
set_option linter.unusedSimpArgs false
set_option linter.unusedVariables false
set_option maxRecDepth 8000
namespace Go.Proofs.YtjldamkmdkaiiaaGreatDoor
open Go.RowKit Go.WideShapes Col
section
variable {W : Bs} {g f fcap : Nat} {room armed ops : Int} {off : Bool} {r : List Value} {xs : List Fil} {w w' : World}
theorem SN.seen (h : SN W g room off armed ops f fcap r xs w) (v : World) (hv : KF v w) : SN ⟨W.b, v⟩ g room off armed ops f fcap r xs w :=
 ⟨gb_seen h.below v hv, h.fbase, h.ne, h.st, h.fl, h.fc, h.own, h.sg, h.sf, h.ap⟩
theorem SA.seen (h : SA W g room off armed ops xs w) (v : World) (hv : KF v w) : SA ⟨W.b, v⟩ g room off armed ops xs w := by
 rcases h with ⟨e, h⟩ | ⟨f, fcap, r, h⟩
 ·exact .inl ⟨e, h.seen v hv⟩
 ·exact .inr ⟨f, fcap, r, h.seen v hv⟩
theorem SA.kf (h : SA W g room off armed ops xs w) : KF W.v w := h.below.kf
theorem SA.now (h : SA W g room off armed ops xs w) : SA ⟨W.b, w⟩ g room off armed ops xs w := h.seen w (KF.refl w)
theorem SA.off_row (h : SA W g room off armed ops xs w) {B n cap : Nat} {A : Option Addr} {l : List Nat} (ho : OwnS w B A n cap l) :
  ∀ f n c, w.cell? ⟨g, 1, none⟩ = some (.slice (some ⟨f, 0, none⟩) n c) → ∀ (k x : Nat), l[k]? = some x → A.map (·.block) ≠ some f := by
 intro f n c hc k x hk hA
 rcases h with ⟨-, h⟩ | ⟨f', fcap, r, h⟩
 ·rw [h.g1] at hc; cases hc
 ·rw [h.g1] at hc
  injection hc with hc; injection hc with e1 e2 e3
  injection e1 with e1; injection e1 with e1 _ _
  subst e1
  rcases ho.1.2 with ⟨h1, _⟩ | ⟨a, cap', cur, h1, hb, hrow, -⟩
  ·injection h1 with e1 e2 e3; rw [e1] at hA; cases hA
  ·injection h1 with e1 e2 e3
   rw [e1] at hA; simp at hA; subst hA
   have h2 := hrow.symm.trans h.fl
   injection h2 with h2; injection h2 with _ h2 _
   exact absurd h2 (by decide)
theorem append_K {t : ByteArray} {e armed' : Int} {off' : Bool} (hts : t.size ≤ 281474976710656) (hform : formK t = true) (hr : Rises xs) (hn : xs.length < 500) (w : World) (hs : Hid (SA W g room false armed ops xs w)) (ho : Hid (Op1 armed e armed' off')) (h : Hid (0 ≤ ops ∧ ops < 1000000000)) (ha : Hid (armed < 1000000000))
  (B : Nat) (p : Option Addr) (n c : Nat) (m : List Nat) (hp : Hid (OwnS w B p n c m)) (hroom : room ≤ 16777216) (hfit : (n : Int) ≤ room - (sumN xs : Nat)) (hr0 : 0 ≤ room) :
  Calls Tryz.prog 12 #[.pointer (some ⟨g, 0, none⟩), .string t, .slice p n c] w fun z w' => z = .returned (.int .i64 e) ∧ KF w w' ∧ ∃ ys, AppRel xs t m ys ∧ SA W g room off' armed' (ops + 1) ys w' := by
 refine (append_A hts hform hr hn w (Lib.hid hs.out.now) ho h ha p n c m (Lib.hid hp.out.len) (Lib.hid hp.out.byAt) (Lib.hid (hs.out.off_row hp.out)) hroom hfit hr0).mono ?_
 rintro z w' ⟨rfl, ys, h1, h2⟩
 have hk : KF w w' := h2.kf
 exact ⟨rfl, hk, ys, h1, h2.seen W.v (hs.out.kf.trans hk)⟩
theorem delete_K {t : ByteArray} {armed' : Int} (hn : xs.length ≤ 1000) (lo : Nat) (x : Fil) (w : World) (hs : Hid (SA W g room false armed ops xs w)) (ht : Hid (There xs t lo x)) (ho : Hid (Op1 armed 0 armed' false)) (h : Hid (0 ≤ ops ∧ ops < 1000000000)) (ha : Hid (armed < 1000000000)) :
  Calls Tryz.prog 36 #[.pointer (some ⟨g, 0, none⟩), .string t] w fun e w' => e = .returned (.int .i64 0) ∧ KF w w' ∧ SA W g room false armed' (ops + 1) (xs.eraseIdx lo) w' := by
 refine (delete_A hn lo x w (Lib.hid hs.out.now) ht ho h ha).mono ?_
 rintro z w' ⟨rfl, h2⟩
 have hk : KF w w' := h2.kf
 exact ⟨rfl, hk, h2.seen W.v (hs.out.kf.trans hk)⟩
end
end Go.Proofs.YtjldamkmdkaiiaaGreatDoor
namespace Go.Proofs.YtjldamkmdkaiiaaGreatDoor
open Go.RowKit Go.Sort
theorem kept_below {B : Nat} {w w' : World} (h : Below B w w') : Kept (fun k => B ≤ k) w w' := ⟨h.os, h.tape, h.output, h.size, fun k hk hn => h.block k (by omega)⟩
theorem OwnE.keptE {S : Nat → Prop} {w w' : World} {B n cap : Nat} {A : Option Addr} {l : List Ev} (h : OwnE w B A n cap l) (hk : Kept S w w') (hS : ∀ k, S k → k < B) : OwnE w' B A n cap l := by
 refine ⟨h.1, ?_⟩
 rcases h.2 with h1 | ⟨g, cap', cur, h1, hb, hrow, h2⟩
 ·exact .inl h1
 ·exact .inr ⟨g, cap', cur, h1, hb, hk.heap hrow (fun e => by have := hS g e; omega), h2⟩
theorem TreeT.keepS {S : Nat → Prop} {w w' : World} {B t rb lb n cr cl win : Nat} {Rs : List (List Ev)} (h : TreeT w B t rb lb n cr cl Rs win) (hk : Kept S w w') (h1 : ¬ S t) (h2 : ¬ S rb) (h3 : ¬ S lb) (h4 : ∀ k, S k → B ≤ k) : TreeT w' B t rb lb n cr cl Rs win := by
 obtain ⟨L, V, g1, g2, g3⟩ := h
 exact ⟨L, V, g1.keepS hk h1 h2 h3 h4, g2, g3⟩
theorem evAt_at2 (w : World) (x : Ev) : EvAt ((w.alloc (.cells #[.int .u64 (x.off : Int), .int .i64 x.part, .int .i64 x.time, .string x.key, .float .f64 x.val] 51)).alloc (.cells #[.int .u64 (x.off : Int), .int .i64 x.part, .int .i64 x.time, .string x.key, .float .f64 x.val] 51)) (some ⟨w.heap.size + 1, 0, none⟩) [x] := by
 have h := evAt_new (w.alloc (.cells #[.int .u64 (x.off : Int), .int .i64 x.part, .int .i64 x.time, .string x.key, .float .f64 x.val] 51)) [x] #[.int .u64 (x.off : Int), .int .i64 x.part, .int .i64 x.time, .string x.key, .float .f64 x.val] rfl 51
 rwa [show (w.alloc (.cells #[.int .u64 (x.off : Int), .int .i64 x.part, .int .i64 x.time, .string x.key, .float .f64 x.val] 51)).heap.size = w.heap.size + 1 by simp] at h
def lenV : Value → Nat
 | .slice _ n _ => n
 | _ => 0
theorem TreeT.next {w : World} {B t rb lb n cr cl win : Nat} {Rs : List (List Ev)} (h : TreeT w B t rb lb n cr cl Rs win) (ho : ∀ r ∈ Rs, Ordered ltM r) :
  n = Rs.length ∧ win < n ∧ (∀ j, j < n → ah ltM (rsF Rs) j win = false) ∧ ((rsF Rs win = [] ∧ Rs.flatten = []) ∨ ∃ x xs, rsF Rs win = x :: xs ∧ Rs[win]? = some (x :: xs) ∧ isort ltM Rs.flatten = x :: isort ltM (Rs.set win xs).flatten ∧ (∀ r ∈ Rs.set win xs, Ordered ltM r) ∧ (Rs.set win xs).flatten.length + 1 = Rs.flatten.length) := by
 obtain ⟨L, V, hT, hTo, hV⟩ := h
 have hwin : win < n := by rw [← hV]; exact hTo.lt' (by decide) (by have := hT.pos; omega)
 have hb : ∀ j, j < n → ah ltM (rsF Rs) j win = false := fun j hj => by have := hTo.win wkE j hj; rw [hV] at this; exact this
 have hR : ∀ j, j < n → Rs[j]? = some (rsF Rs j) := fun j hj => by obtain ⟨l, h1, h2⟩ := hT.at hj; rw [h1, h2]
 refine ⟨hT.len, hwin, hb, ?_⟩
 rcases hx : rsF Rs win with _ | ⟨x, xs⟩
 ·exact .inl ⟨rfl, all_nil Rs hT.len hR win hb hx⟩
 ·right
  have h1 := all_pop wkE Rs hT.len hR ho win hwin hb x xs hx
  have h2 : Rs[win]? = some (x :: xs) := by rw [hR win hwin, hx]
  refine ⟨x, xs, rfl, h2, h1, fun r hr => ?_, ?_⟩
  ·rcases List.mem_or_eq_of_mem_set hr with h9 | h9
   ·exact ho r h9
   ·have := ho _ (List.mem_of_getElem? h2)
    rw [Ordered, List.pairwise_cons] at this
    rw [h9]; exact this.2
  ·have h3 := congrArg List.length h1
   rw [List.length_cons, isort_len, isort_len] at h3; omega
def AllOk (W : World) (Rs : List (List Ev)) (e : Ending) (w' : World) : Prop := ∃ (A : Option Addr) (N cap : Nat), e = .returned (.tuple #[.slice A N cap, .int .i64 0]) ∧ N = Rs.flatten.length ∧ OwnE w' W.heap.size A N cap (isort ltM Rs.flatten) ∧ (A = none → cap = 0) ∧ N ≤ cap ∧ cap ≤ maxLen ∧ Below W.heap.size W w'
def AllEnds (W : World) (Rs : List (List Ev)) (e : Ending) (w' : World) : Prop :=
 if Rs.all (ordB ltM) = true then AllOk W Rs e w' else e = .returned (.tuple #[.slice none 0 0, .int .i64 7]) ∧ Below W.heap.size W w'
def RAl (W : World) (B1 t rb lb n cr cl : Nat) (Rs : List (List Ev)) (u : Value) (wr : World) : Prop :=
 ∃ (dn : List Ev) (Rs' : List (List Ev)) (win : Nat) (A : Option Addr) (k cap : Nat), u = .slice A k cap ∧ k = dn.length ∧ OwnE wr B1 A k cap dn ∧ (A = none → cap = 0) ∧ k ≤ cap ∧ cap ≤ maxLen ∧ TreeT wr W.heap.size t rb lb n cr cl Rs' win ∧ isort ltM Rs.flatten = dn ++ isort ltM Rs'.flatten ∧ (∀ r ∈ Rs', Ordered ltM r) ∧ k + Rs'.flatten.length = Rs.flatten.length ∧ Below W.heap.size W wr ∧ B1 ≤ wr.heap.size
set_option maxHeartbeats 8000000 in
theorem all_any (g off n c : Nat) (Ss : List Sl) (hn : Hid (n = Ss.length)) (hn1 : 0 < n) (hn16 : n ≤ 16) (hnc : n ≤ c) (hcm : c ≤ maxLen) (hfl : Hid ((slL Ss).flatten.length ≤ 900)) (W : World) (HRA : Hid (RunsAt W (some ⟨g, off, none⟩) Ss)) :
  Calls Tryz.prog 73 #[.slice (some ⟨g, off, none⟩) n c] W (AllEnds W (slL Ss)) := by
 have HNW := Lib.hid (new_any g off n c Ss hn hn1 hn16 hnc hcm W HRA)
 rcases ho : (slL Ss).all (ordB ltM) with _ | _
 ·have HNO := Lib.hid ho
  have HNW2 : Hid (Calls Tryz.prog 87 #[.slice (some ⟨g, off, none⟩) n c] W fun e w' => e = .returned (.tuple #[.pointer none, .int .i64 7]) ∧ Below W.heap.size W w') := Lib.hid (HNW.out.mono fun e w' h => by
   unfold NewEnds at h; rw [if_neg (by rw [ho]; decide)] at h; exact h)
  clear ho HNW
  go_enter Tryz.func73, Tryz.ntmps73
  go_wp2_with (go_at_call 87; (with_reducible refine (HNW2.out).mono ?_); rintro e w2 ⟨rfl, hb⟩; have HB := Lib.hid hb; clear hb)
  go_ret2
  show AllEnds W (slL Ss) _ _
  unfold AllEnds
  rw [if_neg (by rw [HNO.out]; decide)]
  exact ⟨rfl, HB.out⟩
 ·have HYES := Lib.hid ho
  have HNW2 : Hid (Calls Tryz.prog 87 #[.slice (some ⟨g, off, none⟩) n c] W (NewOk W n (slL Ss))) := Lib.hid (HNW.out.mono fun e w' h => by
   unfold NewEnds at h; rw [if_pos ho] at h; exact h)
  have HORD : Hid (∀ r ∈ slL Ss, Ordered ltM r) := Lib.hid fun r hr => (ordB_iff wkE r).1 (List.all_eq_true.1 ho r hr)
  clear ho HNW
  go_enter Tryz.func73, Tryz.ntmps73
  go_wp2_with (go_at_call 87; (with_reducible refine (HNW2.out).mono ?_); rintro e w2 ⟨t, rb, lb, cr, cl, win, L, V, rfl, h1, h2, h3, h4⟩; have HT := Lib.hid h1; have HTo := Lib.hid h2; have HV := Lib.hid h3; have HB := Lib.hid h4; clear h1 h2 h3 h4)
  obtain ⟨B1, hB1⟩ : ∃ B1, B1 = w2.heap.size := ⟨_, rfl⟩
  have HLT : Hid (t < B1 ∧ rb < B1 ∧ lb < B1 ∧ W.heap.size ≤ B1) := Lib.hid ⟨by rw [hB1]; exact HT.out.lt, by rw [hB1]; exact HT.out.rrow.lt, by rw [hB1]; exact HT.out.lrow.lt, by rw [hB1]; exact HB.out.size⟩
  have HST : Hid (RAl W B1 t rb lb n cr cl (slL Ss) (.slice none 0 0) w2) := Lib.hid ⟨[], slL Ss, win, none, 0, 0, rfl, rfl, World.ownsRow_nil _ _ _ 5, fun _ => rfl, Nat.le_refl _, Nat.zero_le _, ⟨L, V, HT.out, HTo.out, HV.out⟩, rfl, HORD.out, by simp, HB.out, by rw [hB1]; exact Nat.le_refl _⟩
  obtain ⟨FL, hFL⟩ : ∃ FL, FL = (slL Ss).flatten.length := ⟨_, rfl⟩
  have HFL := Lib.hid hFL
  clear hFL hB1 HT HTo HV HB HNW2 HORD
  go_loopw [6] (fun u wr => RAl W B1 t rb lb n cr cl (slL Ss) u wr) (fun u _ => FL - lenV u)
  case atStart => exact HST.out
  case round =>
   obtain ⟨dn, Rs', win, A, k, cap, rfl, hk, how, hnil, hkc, hcm2, htt, hso, hord, hcnt, hb, hbs⟩ := hrel
   obtain ⟨hlen, hwin, hbest, hnx⟩ := htt.next hord
   have HTT := Lib.hid htt; have HOW := Lib.hid how; have HNIL := Lib.hid hnil; have HSO := Lib.hid hso; have HORD := Lib.hid hord; have HCNT := Lib.hid hcnt; have HB := Lib.hid hb; have HBS := Lib.hid hbs; have HK := Lib.hid hk; have HCAP : Hid (k ≤ cap ∧ cap ≤ maxLen) := Lib.hid ⟨hkc, hcm2⟩
   clear htt how hnil hso hord hcnt hb hbs HST hbest hk hcm2 hlen hwin
   rcases hnx with ⟨hr, hfl0⟩ | ⟨x, xs, hr, hget, hpop, hord2, hlen2⟩
   ·have HN := Lib.hid (next_no W.heap.size t rb lb n cr cl Rs' win hr wr HTT)
    have HFIN : Hid (isort ltM (slL Ss).flatten = dn ∧ k = (slL Ss).flatten.length) := Lib.hid (by
     have h1 := HSO.out; have h2 := HCNT.out
     rw [hfl0] at h1 h2
     exact ⟨by rw [h1]; simp [isort, smerge], by simpa using h2⟩)
    clear hr hfl0
    go_wp2_with (first
     | (go_at_call 88; (with_reducible refine (HN.out).mono ?_); rintro e w3 ⟨rfl, hb3⟩; unfold zEv; have HB3 := Lib.hid hb3; clear hb3)
     | (refine wpList_store_row rfl 51 (.tmp 7) (.tmp 21) rfl w3.heap.size #[.int .u64 0, .int .i64 0, .int .i64 0, .string { data := #[] }, .float .f64 0] rfl rfl _ _ (heap_alloc_newM _ _) iZero rfl oneZ ?_; rw [World.setRow_alloc_new]))
    go_ret2
    show AllEnds W (slL Ss) _ _
    unfold AllEnds
    rw [if_pos HYES.out]
    have hba : Below w3.heap.size w3 (w3.alloc (.cells #[.int .u64 0, .int .i64 0, .int .i64 0, .string { data := #[] }, .float .f64 0] 51)) := (Below.refl _ _).alloc (Nat.le_refl _) _
    refine ⟨A, k, cap, rfl, HFIN.out.2, ?_, HNIL.out, HCAP.out.1, HCAP.out.2, bto (bto HB.out HB3.out) hba⟩
    rw [HFIN.out.1]
    exact ((HOW.out.keptE (S := fun _ => False) (Kept.of_below HB3.out) (fun k hk => hk.elim)).keptE (S := fun _ => False) (Kept.of_below hba) (fun k hk => hk.elim)).less HLT.out.2.2.2
   ·have HN := Lib.hid (next_yes W.heap.size t rb lb n cr cl Rs' win x xs hr wr HTT)
    have HPOP := Lib.hid hpop; have HO2 := Lib.hid hord2; have HL2 := Lib.hid hlen2
    have hk9 : k + 1 ≤ 900 := by have := HCNT.out; have := hfl.out; omega
    have hkF : k < FL := by have := HCNT.out; have := HFL.out; omega
    clear hr hget hpop hord2 hlen2
    go_wp2_with (first
     | (go_at_call 88; (with_reducible refine (HN.out).mono ?_); rintro e w3 ⟨rfl, ⟨win', ht3⟩, hk3⟩; have HT3 := Lib.hid ht3; have HK3 := Lib.hid hk3; have HOW3 := Lib.hid (HOW.out.keptE hk3 (fun k hk => by have := HLT.out; rcases hk with rfl | rfl | rfl <;> omega)); have HOWA := Lib.hid ((HOW3.out.keptE (S := fun _ => False) (Kept.of_below ((Below.refl w3.heap.size w3).alloc (Nat.le_refl _) (.cells #[.int .u64 (x.off : Int), .int .i64 x.part, .int .i64 x.time, .string x.key, .float .f64 x.val] 51))) (fun k hk => hk.elim)).alloc (.cells #[.int .u64 (x.off : Int), .int .i64 x.part, .int .i64 x.time, .string x.key, .float .f64 x.val] 51)); have hbs3 : B1 ≤ ((w3.alloc (.cells #[.int .u64 (x.off : Int), .int .i64 x.part, .int .i64 x.time, .string x.key, .float .f64 x.val] 51)).alloc (.cells #[.int .u64 (x.off : Int), .int .i64 x.part, .int .i64 x.time, .string x.key, .float .f64 x.val] 51)).heap.size := (by have := HBS.out; have := hk3.size; simp; omega); clear ht3 hk3)
     | (refine wpList_store_row rfl 51 (.tmp 7) (.tmp 21) rfl w3.heap.size #[.int .u64 (x.off : Int), .int .i64 x.part, .int .i64 x.time, .string x.key, .float .f64 x.val] rfl rfl _ _ (heap_alloc_newM _ _) (iEvA x) rfl (oneEvA x) ?_; rw [World.setRow_alloc_new])
     | (refine wpList_load_row rfl 51 (.tmp 7) rfl w3.heap.size rfl _ #[.int .u64 (x.off : Int), .int .i64 x.part, .int .i64 x.time, .string x.key, .float .f64 x.val] (0, 0) _ (heap_alloc_newM _ _) uEvent rfl (iEvA x) ?_)
     | (at_builtin; refine wpList_append_ev rfl (.tmp 27) (.tmp 29) rfl B1 A k cap dn rfl HOWA.out (some ⟨w3.heap.size + 1, 0, none⟩) 1 1 [x] rfl rfl (evAt_at2 w3 x) (fun h => by cases h) (k + 1) rfl (by omega) hbs3 ?_; intro A4 c4 w4 ho4 hc4 hm4 hn4 hb4; have HO4 := Lib.hid ho4; have HB4 := Lib.hid hb4; have HN4 := Lib.hid hn4; clear ho4 hb4 hn4))
    go_roundw
    case rel =>
     have hba : Below w3.heap.size w3 ((w3.alloc (.cells #[.int .u64 (x.off : Int), .int .i64 x.part, .int .i64 x.time, .string x.key, .float .f64 x.val] 51)).alloc (.cells #[.int .u64 (x.off : Int), .int .i64 x.part, .int .i64 x.time, .string x.key, .float .f64 x.val] 51)) := ((Below.refl _ _).alloc (Nat.le_refl _) _).alloc (by simp) _
     obtain ⟨L3, V3, hT3, hTo3, hV3⟩ := HT3.out
     have hl := HLT.out
     have hb3 : Below W.heap.size W w3 := HB.out.trans (HK3.out.below (B := W.heap.size) HB.out.size fun k hk => by
      rcases hk with rfl | rfl | rfl
      ·exact hT3.bt
      ·exact hT3.br
      ·exact hT3.bl)
     refine ⟨dn ++ [x], Rs'.set win xs, win', A4, k + 1, c4, rfl, by rw [List.length_append, List.length_singleton, HK.out], HO4.out, HN4.out, hc4, hm4, (HT3.out.keepS (S := fun _ => False) (Kept.of_below hba) id id id (fun k hk => hk.elim)).keepS (kept_below HB4.out) (by omega) (by omega) (by omega) (fun k hk => by have := hT3.bt; omega), ?_, HO2.out, ?_, (bto hb3 hba).trans (HB4.out.mono hl.2.2.2), Nat.le_trans hbs3 HB4.out.size⟩
     ·rw [HSO.out, HPOP.out]; simp
     ·have := HL2.out; have := HCNT.out; omega
    case measure => simp [lenV]; omega
structure SlIn (w : World) (s : Sl) : Prop where
 cap : s.l.length ≤ s.c
 cap' : s.c ≤ maxLen
 nil : s.A = none → s.c = 0
 at' : EvAt w s.A s.l
structure RunsIn (w : World) (a : Option Addr) (Ss : List Sl) : Prop where
 cell : ∀ (j : Nat) (s : Sl), Ss[j]? = some s → ∃ g off, a = some ⟨g, off, none⟩ ∧ g < w.heap.size ∧ w.cell? ⟨g, off + j, none⟩ = some s.v
 ok : ∀ s ∈ Ss, SlIn w s
theorem RunsIn.keep {w w' : World} {a : Option Addr} {Ss : List Sl} (h : RunsIn w a Ss) (hb : Below w.heap.size w w') : RunsIn w' a Ss := by
 refine ⟨fun j s hs => ?_, fun s hs => ⟨(h.ok s hs).cap, (h.ok s hs).cap', (h.ok s hs).nil, (h.ok s hs).at'.keep hb⟩⟩
 obtain ⟨g, off, h2, h3, h4⟩ := h.cell j s hs
 exact ⟨g, off, h2, Nat.lt_of_lt_of_le h3 hb.size, (hb.cell (p := ⟨g, off + j, none⟩) h3).trans h4⟩
theorem RunsIn.to {w : World} {a : Option Addr} {Ss : List Sl} (h : RunsIn w a Ss) (hs : ∀ s ∈ Ss, s.l.length ≤ 1000) : RunsAt w a Ss :=
 ⟨h.cell, fun s hs2 => ⟨(h.ok s hs2).cap, (h.ok s hs2).cap', (h.ok s hs2).nil, (h.ok s hs2).at', hs s hs2⟩⟩
def RowAtM (w : World) (g n : Nat) : Prop := ∃ cs : Array Value, w.heap[g]? = some (.cells cs 51 (0, 0)) ∧ n * 5 ≤ cs.size
theorem RowAtM.cell {w : World} {g n : Nat} (h : RowAtM w g n) (i : Nat) (hi : i < n * 5) : (∃ v, w.cell? ⟨g, i, none⟩ = some v) ∧ w.frozen? ⟨g, i, none⟩ = false := by
 obtain ⟨cs, h1, h2⟩ := h
 exact ⟨⟨cs[i]'(by omega), by rw [cell_of_row _ _ _ _ _ _ h1, Array.getElem?_eq_getElem (by omega)]⟩, frozen_of_row _ _ _ _ _ h1⟩
theorem RowAtM.set {w : World} {g n i : Nat} {v : Value} (h : RowAtM w g n) : RowAtM (w.setCell ⟨g, i, none⟩ v) g n := by
 obtain ⟨cs, h1, h2⟩ := h
 exact ⟨cs.setIfInBounds i v, heap_setCell_same w g i cs _ v h1, by simpa using h2⟩
def OwnR (w : World) (B : Nat) (A : Option Addr) (n cap : Nat) (Ss : List Sl) : Prop := w.ownsRow B 22 1 (.slice A n cap) n (slV Ss)
structure SlOwn (w : World) (B : Nat) (s : Sl) : Prop where
 own : OwnE w B s.A s.l.length s.c s.l
 cap : s.l.length ≤ s.c
 cap' : s.c ≤ maxLen
 nil : s.A = none → s.c = 0
 small : s.l.length ≤ 1000
theorem SlOwn.ok {w : World} {B : Nat} {s : Sl} (h : SlOwn w B s) : SlOk w s := ⟨h.cap, h.cap', h.nil, h.own.at', h.small⟩
theorem SlOwn.below {w w' : World} {B : Nat} {s : Sl} (h : SlOwn w B s) (hb : Below w.heap.size w w') : SlOwn w' B s := ⟨h.own.keptE (S := fun _ => False) (Kept.of_below hb) (fun k hk => hk.elim), h.cap, h.cap', h.nil, h.small⟩
theorem OwnR.below {w w' : World} {B n cap : Nat} {A : Option Addr} {Ss : List Sl} (h : OwnR w B A n cap Ss) (hb : Below w.heap.size w w') : OwnR w' B A n cap Ss := by
 refine ⟨h.1, ?_⟩
 rcases h.2 with h1 | ⟨g, cap', cur, h1, hb', hrow, h2⟩
 ·exact .inl h1
 ·exact .inr ⟨g, cap', cur, h1, hb', (Kept.of_below (S := fun _ => False) hb).heap hrow (fun e => e), h2⟩
theorem SlOwn.beside {w w' : World} {B B' n cap : Nat} {A : Option Addr} {Ss : List Sl} {s : Sl} (h : SlOwn w B s) (hr : OwnR w B' A n cap Ss) (hg : w.grownBy w' ((Value.slice A n cap).ownBlock)) : SlOwn w' B s := by
 refine ⟨⟨h.own.1, ?_⟩, h.cap, h.cap', h.nil, h.small⟩
 rcases h.own.2 with h1 | ⟨g, cap', cur, h1, hb', hrow, h2⟩
 ·exact .inl h1
 ·refine .inr ⟨g, cap', cur, h1, hb', (hg.block g (Array.getElem?_eq_some_iff.1 hrow).1 fun e => ?_).trans hrow, h2⟩
  rcases hr.2 with ⟨e0, e1⟩ | ⟨g3, cap3, cur3, e0, -, hrow3, -⟩
  ·rw [e0] at e; cases e
  ·rw [e0] at e
   have e : g = g3 := by simpa [Value.ownBlock] using e
   subst e
   rw [hrow] at hrow3; injection hrow3 with hrow3
   injection hrow3 with x1 x2 x3
   exact absurd x2 (by decide)
theorem OwnR.beside {w w' : World} {B n cap n2 cap2 : Nat} {A A2 : Option Addr} {Ss : List Sl} (h : OwnR w B A n cap Ss) (hB : ∀ k, A.map (·.block) = some k → some k ≠ A2.map (·.block)) (hg : w.grownBy w' ((Value.slice A2 n2 cap2).ownBlock)) : OwnR w' B A n cap Ss := by
 refine ⟨h.1, ?_⟩
 rcases h.2 with h1 | ⟨g, cap', cur, h1, hb', hrow, h2⟩
 ·exact .inl h1
 ·injection h1 with e1 e2 e3
  refine .inr ⟨g, cap', cur, by rw [e1, e3], hb', (hg.block g (Array.getElem?_eq_some_iff.1 hrow).1 fun e => ?_).trans hrow, h2⟩
  refine hB g (by rw [e1]; rfl) ?_
  rcases A2 with _ | a2
  ·cases e
  ·have e : g = a2.block := by simpa [Value.ownBlock] using e
   rw [e]; rfl
theorem OwnR.len {w : World} {B n cap : Nat} {A : Option Addr} {Ss : List Sl} (h : OwnR w B A n cap Ss) : n = Ss.length := by have := h.1; unfold slV at this; rw [List.length_map] at this; omega
theorem OwnR.caps {w : World} {B n cap : Nat} {A : Option Addr} {Ss : List Sl} (h : OwnR w B A n cap Ss) : n ≤ cap ∧ cap ≤ maxLen := by
 rcases h.2 with ⟨h1, h2⟩ | ⟨g, cap', cur, h1, -, -, h2, h3, -⟩
 ·cases h1; exact ⟨by omega, Nat.zero_le _⟩
 ·cases h1; exact ⟨h2, h3⟩
theorem OwnR.cell {w : World} {B n cap : Nat} {A : Option Addr} {Ss : List Sl} (h : OwnR w B A n cap Ss) (j : Nat) (s : Sl) (hs : Ss[j]? = some s) : ∃ g off, A = some ⟨g, off, none⟩ ∧ g < w.heap.size ∧ w.cell? ⟨g, off + j, none⟩ = some s.v := by
 rcases h.2 with ⟨e0, e1⟩ | ⟨g, cap', cur, e0, hb, hrow, hn, hm, hsz, ht⟩
 ·have := h.len; have := (List.getElem?_eq_some_iff.1 hs).1; omega
 ·injection e0 with a1 a2 a3
  refine ⟨g, 0, a1, (Array.getElem?_eq_some_iff.1 hrow).1, ?_⟩
  rw [cell_of_row _ _ _ _ _ _ hrow, Nat.zero_add, ← Array.getElem?_toList]
  have hj := (List.getElem?_eq_some_iff.1 hs).1
  have hl := h.len
  have e : (cur.toList.take (n * 1))[j]? = (slV Ss)[j]? := by rw [ht]
  rw [List.getElem?_take, if_pos (by omega)] at e
  rw [e]; unfold slV; rw [List.getElem?_map, hs]; rfl
theorem OwnR.runs {w : World} {B B' n cap : Nat} {A : Option Addr} {Ss : List Sl} (h : OwnR w B A n cap Ss) (hs : ∀ s ∈ Ss, SlOwn w B' s) : RunsAt w A Ss := ⟨h.cell, fun s h2 => (hs s h2).ok⟩
theorem OwnR.nil (w : World) (B : Nat) : OwnR w B none 0 0 [] := World.ownsRow_nil _ _ _ 1
theorem OwnR.base {w : World} {B n cap : Nat} {A : Option Addr} {Ss : List Sl} (h : OwnR w B A n cap Ss) : ∀ k, A.map (·.block) = some k → B ≤ k ∧ k < w.heap.size := fun k hk => by
 rcases h.2 with ⟨e0, e1⟩ | ⟨g, cap', cur, e0, hb, hrow, -⟩
 ·injection e0 with a1; rw [a1] at hk; cases hk
 ·injection e0 with a1; rw [a1] at hk; simp at hk; subst hk; exact ⟨hb, (Array.getElem?_eq_some_iff.1 hrow).1⟩
theorem wpList_append_run {w : World} {ops : Array Oper} {rest : List Oper} {o : Oper} {ac : Act} {Q : Exit → Act → World → Prop} (hgd : o.guard = none) (s x : Operand)
  (ho : o.op = .call { callee := .builtin .append, args := #[s, x], argTypes := #[114, 114] })
  (B : Nat) (A : Option Addr) (n cap : Nat) (Ss : List Sl) (hs : ac.eval s = .slice A n cap) (hown : OwnR w B A n cap Ss) (b : Nat) (sl : Sl) (hx : ac.eval x = .slice (some ⟨b, 0, none⟩) 1 1) (hc : w.cell? ⟨b, 0, none⟩ = some sl.v)
  (hbytes : n + 1 ≤ 1000) (hbase : B ≤ w.heap.size)
  (h : ∀ A' cap' w', OwnR w' B A' (n + 1) cap' (Ss ++ [sl]) → w.grownBy w' ((Value.slice A n cap).ownBlock) → Below B w w' → (∀ k, A'.map (·.block) = some k → A.map (·.block) = some k ∨ w.heap.size ≤ k) → wpList Tryz.prog ops Q rest (ac.put o.dst (.slice A' (n + 1) cap')) w') : wpList Tryz.prog ops Q (o :: rest) ac w := by
 obtain ⟨i0, hi, hz0, hz1, hz2⟩ := info_parts infoSl
 refine wpList_append_own_at w hgd s x 114 ho B 22 i0 _ 1 24 Tryz.underlying114 hi hz0 hz1 hz2 rfl (by decide) (.slice A n cap) n (slV Ss) hs hown ⟨b, 0, none⟩ 1 1 [sl.v] hx rfl (fun j u hu => by
  rcases j with _ | j
  ·injection hu with hu; subst hu; rw [Addr.add_lit]; exact hc
  ·simp at hu) (fun u hu => by rw [List.mem_singleton.1 hu]; rfl) (by unfold maxLen; omega) (by omega) hbase ?_
 intro v' w2 hown2 hgr h5 h6
 have e : slV Ss ++ [sl.v] = slV (Ss ++ [sl]) := by unfold slV; rw [List.map_append]; rfl
 rw [e] at hown2
 rcases hown2.2 with ⟨e0, e1⟩ | ⟨g, cap', cur, e0, hb', hrow, h7⟩
 ·omega
 ·subst e0
  refine h (some ⟨g, 0, none⟩) cap' w2 hown2 hgr ((Below.refl B w).grown hgr hbase (fun k hk => ?_)) (fun k hk => ?_)
  ·rcases hown.2 with ⟨e2, -⟩ | ⟨g2, cap2, cur2, e2, hb2, -⟩
   ·rw [e2] at hk; cases hk
   ·rw [e2] at hk; have hk : g2 = k := by simpa [Value.ownBlock] using hk
    omega
  ·have hk : g = k := by simpa using hk
   subst hk
   rcases h6 with h6 | h6
   ·left
    rcases A with _ | a
    ·cases h6
    ·have h6 : g = a.block := by simpa [Value.ownBlock] using h6
     rw [h6]; rfl
   ·right
    have h6 : g = w.heap.size := by simpa [Value.ownBlock] using h6
    omega
theorem wpList_append_evG {w : World} {ops : Array Oper} {rest : List Oper} {o : Oper} {ac : Act} {Q : Exit → Act → World → Prop} (hgd : o.guard = none) (s x : Operand)
  (ho : o.op = .call { callee := .builtin .append, args := #[s, x], argTypes := #[22, 22] })
  (B : Nat) (A : Option Addr) (n cap : Nat) (l : List Ev) (hs : ac.eval s = .slice A n cap) (hown : OwnE w B A n cap l) (a : Option Addr) (m c : Nat) (l2 : List Ev) (hx : ac.eval x = .slice a m c) (hm : m = l2.length) (h2 : EvAt w a l2) (hnil : a = none → c = 0)
  (N : Nat) (hN : N = n + m) (hbytes : n + m ≤ 1000) (hbase : B ≤ w.heap.size)
  (h : ∀ A' cap' w', OwnE w' B A' N cap' (l ++ l2) → N ≤ cap' → cap' ≤ maxLen → (A' = none → cap' = 0) → Below B w w' → w.grownBy w' ((Value.slice A n cap).ownBlock) → (∀ k, A'.map (·.block) = some k → A.map (·.block) = some k ∨ w.heap.size ≤ k) → wpList Tryz.prog ops Q rest (ac.put o.dst (.slice A' N cap')) w') : wpList Tryz.prog ops Q (o :: rest) ac w := by
 subst hN
 obtain ⟨i0, hi, hz0, hz1, hz2⟩ := info_parts infoEv
 rcases a with _ | ad
 ·obtain rfl := hnil rfl
  have hl2 : l2 = [] := by
   rcases l2 with _ | ⟨x, r⟩
   ·rfl
   ·obtain ⟨g, off, e, -⟩ := h2 0 (.int .u64 (x.off : Int)) rfl; cases e
  subst hl2
  have h0 : m = 0 := hm
  subst h0
  obtain ⟨A1, c1, e1, e2, e3, e4⟩ := ro_slice hown
  injection e1 with b1 b2 b3
  subst b1; subst b3
  refine wpList_append_own_none hgd s x 22 ho B 51 i0 5 Tryz.underlying22 hi (.slice A n cap) n (evs l) hs hown hx ?_
  exact h A cap w (by rw [List.append_nil]; exact hown) e2 e3 e4 (Below.refl _ _) (World.grownBy.refl _ _) (fun k hk => .inl hk)
 ·refine wpList_append_own_at w hgd s x 22 ho B 51 i0 _ 5 48 Tryz.underlying22 hi hz0 hz1 hz2 rfl (by decide) (.slice A n cap) n (evs l) hs hown ad m c (evs l2) hx (by rw [evs_length, hm]) (fun j u hu => by
   obtain ⟨g', off', e, -, hc⟩ := h2 j u hu
   injection e with e; subst e
   rw [Addr.add_lit]; exact hc) (evs_one l2) (by unfold maxLen; omega) (by omega) hbase ?_
  intro v' w2 hown2 hgr _ h6
  have e : evs l ++ evs l2 = evs (l ++ l2) := by unfold evs; rw [List.flatMap_append]
  rw [e] at hown2
  obtain ⟨A1, c1, rfl, e2, e3, e4⟩ := ro_slice hown2
  refine h A1 c1 w2 hown2 e2 e3 e4 ((Below.refl _ w).grown hgr hbase (ro_base hown)) hgr (fun k hk => ?_)
  rcases A1 with _ | a1
  ·cases hk
  ·have hk : a1.block = k := by simpa using hk
   subst hk
   rcases h6 with h6 | h6
   ·left
    rcases A with _ | a
    ·cases h6
    ·have h6 : a1.block = a.block := by simpa [Value.ownBlock] using h6
     rw [h6]; rfl
   ·right
    have h6 : a1.block = w.heap.size := by simpa [Value.ownBlock] using h6
    omega
theorem SlOwn.base {w : World} {B : Nat} {s : Sl} (h : SlOwn w B s) : ∀ k, s.A.map (·.block) = some k → B ≤ k ∧ k < w.heap.size ∧ ∃ cur, w.heap[k]? = some (.cells cur 51 (0, 0)) := fun k hk => by
 rcases h.own.2 with ⟨e0, e1⟩ | ⟨g, cap', cur, e0, hb, hrow, -⟩
 ·injection e0 with a1; rw [a1] at hk; cases hk
 ·injection e0 with a1; rw [a1] at hk
  have hk : g = k := by simpa using hk
  subst hk; exact ⟨hb, (Array.getElem?_eq_some_iff.1 hrow).1, cur, hrow⟩
structure MRS (B : Nat) (w : World) (As : Option Addr) (i cs : Nat) (SS : List Sl) (F : Sl) : Prop where
 rw : OwnR w B As i cs SS
 ow : ∀ s ∈ SS, SlOwn w B s
 fl : SlOwn w B F
 ap : ∀ s ∈ SS, ∀ k, s.A.map (·.block) = some k → F.A.map (·.block) ≠ some k
section
variable {B i cs : Nat} {w w' : World} {As : Option Addr} {SS : List Sl} {F : Sl}
theorem MRS.below (h : MRS B w As i cs SS F) (hb : Below w.heap.size w w') : MRS B w' As i cs SS F :=
 ⟨h.rw.below hb, fun s hs => (h.ow s hs).below hb, h.fl.below hb, h.ap⟩
end
def AtRow (w : World) (g n : Nat) (f : Nat → Nat) : Prop := ∃ cs : Array Value, w.heap[g]? = some (.cells cs 3 (0, 0)) ∧ ∀ j, j < n → cs[j]? = some (.int .i64 (f j : Int))
theorem AtRow.cell {w : World} {g n : Nat} {f : Nat → Nat} (h : AtRow w g n f) {j : Nat} (hj : j < n) : w.cell? ⟨g, j, none⟩ = some (.int .i64 (f j : Int)) := by
 obtain ⟨cs, h1, h2⟩ := h; rw [cell_of_row _ _ _ _ _ _ h1]; exact h2 j hj
theorem AtRow.fr {w : World} {g n : Nat} {f : Nat → Nat} (h : AtRow w g n f) (j : Nat) : w.frozen? ⟨g, j, none⟩ = false := by
 obtain ⟨cs, h1, -⟩ := h; exact frozen_of_row _ _ _ _ _ h1
theorem AtRow.lt {w : World} {g n : Nat} {f : Nat → Nat} (h : AtRow w g n f) : g < w.heap.size := by
 obtain ⟨cs, h1, -⟩ := h; exact (Array.getElem?_eq_some_iff.1 h1).1
theorem AtRow.of {w w' : World} {g n : Nat} {f : Nat → Nat} (h : AtRow w g n f) (hk : w'.heap[g]? = w.heap[g]?) : AtRow w' g n f := by
 obtain ⟨cs, h1, h2⟩ := h; exact ⟨cs, hk.trans h1, h2⟩
theorem AtRow.set {w : World} {g n : Nat} {f : Nat → Nat} (h : AtRow w g n f) (j x : Nat) (hj : j < n) (y : Int) (hy : y = (x : Int)) : AtRow (w.setCell ⟨g, j, none⟩ (.int .i64 y)) g n (fun i => if i = j then x else f i) := by
 subst hy
 obtain ⟨cs, h1, h2⟩ := h
 refine ⟨cs.setIfInBounds j (.int .i64 (x : Int)), heap_setCell_same w g j cs _ _ h1, fun i hi => ?_⟩
 by_cases e : i = j
 ·subst e; show _ = some (Value.int .i64 ((if i = i then x else f i : Nat) : Int)); rw [if_pos rfl, Array.getElem?_setIfInBounds_self_of_lt (Array.getElem?_eq_some_iff.1 (h2 i hi)).1]
 ·show _ = some (Value.int .i64 ((if i = j then x else f i : Nat) : Int)); rw [if_neg e, Array.getElem?_setIfInBounds_ne (fun h => e h.symm)]; exact h2 i hi
def Lefts (Rs0 Rs : List (List Ev)) (n : Nat) (f : Nat → Nat) : Prop := ∀ j, j < n → ∃ l, Rs0[j]? = some l ∧ f j ≤ l.length ∧ Rs[j]? = some (l.drop (f j))
theorem Lefts.set {Rs0 Rs : List (List Ev)} {n : Nat} {f : Nat → Nat} (h : Lefts Rs0 Rs n f) (k : Nat) (hk : k < n) (x : Ev) (xs : List Ev) (hx : Rs[k]? = some (x :: xs)) :
  Lefts Rs0 (Rs.set k xs) n (fun i => if i = k then f k + 1 else f i) ∧ ∃ l, Rs0[k]? = some l ∧ f k < l.length ∧ l[f k]? = some x := by
 obtain ⟨l, h1, h2, h3⟩ := h k hk
 rw [hx] at h3
 injection h3 with h3
 have hlt : f k < l.length := by
  rcases Nat.lt_or_ge (f k) l.length with h4 | h4
  ·exact h4
  ·rw [List.drop_eq_nil_of_le h4] at h3; cases h3
 rw [List.drop_eq_getElem_cons hlt] at h3
 injection h3 with h5 h6
 refine ⟨fun j hj => ?_, l, h1, hlt, by rw [List.getElem?_eq_getElem hlt, h5]⟩
 by_cases e : j = k
 ·subst e
  refine ⟨l, h1, by show (if j = j then f j + 1 else f j) ≤ _; rw [if_pos rfl]; omega, ?_⟩
  show _ = some (l.drop (if j = j then f j + 1 else f j))
  rw [if_pos rfl, List.getElem?_set, if_pos rfl, if_pos (List.getElem?_eq_some_iff.1 hx).1, h6]
 ·obtain ⟨l2, g1, g2, g3⟩ := h j hj
  exact ⟨l2, g1, by show (if j = k then f k + 1 else f j) ≤ _; rw [if_neg e]; exact g2, by show _ = some (l2.drop (if j = k then f k + 1 else f j)); rw [if_neg e, List.getElem?_set, if_neg (fun h => e h.symm)]; exact g3⟩
theorem Lefts.ahead {Rs0 Rs : List (List Ev)} {n : Nat} {f : Nat → Nat} (h : Lefts Rs0 Rs n f) (k win : Nat) (hk : k < win) (hw : win < n) (hb : ah ltM (rsF Rs) k win = false) (x : Ev) (xs : List Ev) (hx : rsF Rs win = x :: xs) :
  ∃ l, Rs0[k]? = some l ∧ f k ≤ l.length ∧ ∀ y, l[f k]? = some y → lessB x y = true := by
 obtain ⟨l, h1, h2, h3⟩ := h k (by omega)
 refine ⟨l, h1, h2, fun y hy => ?_⟩
 have hlt := (List.getElem?_eq_some_iff.1 hy).1
 have e : rsF Rs k = y :: l.drop (f k + 1) := by
  rw [rsF_some h3, List.drop_eq_getElem_cons hlt]
  rw [List.getElem?_eq_getElem hlt] at hy; injection hy with hy; rw [hy]
 have := (ah_cons hb e hx).2 hk
 rw [ltM_less] at this; exact this
end Go.Proofs.YtjldamkmdkaiiaaGreatDoor
namespace Go.Proofs.YtjldamkmdkaiiaaGreatDoor
open Go.RowKit Go.WideShapes Col
theorem results_tmp2O {fn : Func} {t u : Tmp} (h : fn.results = #[.tmp t, .tmp u]) (tmps : Array Value) (P : Program) (w : World) :
  (results fn tmps).run P w = .ok (.tuple #[tmps.getD t undef, tmps.getD u undef]) w := by simp [results, h]
theorem ownE_nilO (w : World) (B : Nat) : OwnE w B none 0 0 [] := w.ownsRow_nil B _ 5
def runB (l : List Ev) : List Nat := Pg.lay 101 (evY l)
theorem runB_len (l : List Ev) : (runB l).length = 9 + (evY l).length := Pg.lay_len _ _
theorem evY_low {l : List Ev} (h : ∀ x ∈ runB l, x < 256) : ∀ x ∈ evY l, x < 256 := fun x hx => h x (by
 unfold runB Pg.lay
 rw [Pg.front_four]
 exact List.mem_append_left _ (List.mem_append_right _ (List.mem_cons_of_mem _ hx)))
set_option maxHeartbeats 4000000 in
theorem readRun_any (A : Option Addr) (N cap : Nat) (l : List Ev) (p : Int) (h0 : 0 < l.length) (hn6 : l.length ≤ 320) (hfin : Hid (∀ x ∈ l, FineE x)) (hall : Hid (∀ x ∈ l, formB x p = true)) (hN : Hid (N = (runB l).length)) (hc : N ≤ cap) (hcm : cap ≤ maxLen) (w : World) (HA : Hid (ByAt w A (runB l))) (HG : Hid (HalvesAt w)) :
  Calls Tryz.prog 62 #[.slice A N cap, .int .i64 p] w fun e w' => ∃ L m c, e = .returned (.tuple #[.slice L m c, .int .i64 0]) ∧ m = l.length ∧ m ≤ c ∧ c ≤ maxLen ∧ OwnE w' w.heap.size L m c (l.map canE) ∧ Below w.heap.size w w' := by
 have hbl := runB_len l
 obtain ⟨E, hE⟩ : ∃ E, E = N := ⟨_, rfl⟩
 have HRD : Hid (∀ w1, Below w.heap.size w w1 → Calls Tryz.prog 75 #[.slice A N cap, .int .i64 0, .int .i64 p] w1 fun e w' => ∃ L m, e = .returned (.tuple #[.slice (some ⟨L, 0, none⟩) m m, .int .i64 (E : Int), .int .i64 0]) ∧ m = l.length ∧ EvAt w' (some ⟨L, 0, none⟩) (l.map canE) ∧ Below w1.heap.size w1 w') := Lib.hid fun w1 hb => by
  have hr : runB l = [] ++ (Pg.lay 101 (evY l) ++ []) := by unfold runB; simp
  have h := evRead_mid A N cap 0 [] [] l p hn6 hfin hall.out (Lib.hid rfl) (evY_low HA.out.lt) (Lib.hid (by rw [← hr]; exact hN.out)) hc hcm w1 (Lib.hid (by rw [← hr]; exact HA.out.keep hb)) (Lib.hid (HG.out.keep hb))
  refine (show Calls Tryz.prog 75 #[.slice A N cap, .int .i64 0, .int .i64 p] w1 _ from h).mono ?_
  rintro e w' ⟨L, rfl, h1, h2, -⟩
  refine ⟨L, l.length, ?_, rfl, h1, h2⟩
  have he : (E : Int) = ((0 : Nat) : Int) + 5 + ((evY l).length : Int) + 4 := by rw [hE, hN.out, hbl]; omega
  rw [he]
 have hNp : 0 < N := by rw [hN.out, hbl]; omega
 have hN0 : (0 : Int) < (N : Int) := by omega
 have HE := Lib.hid hE
 have HZ : Hid (E = N) := Lib.hid hE
 clear hE hbl
 go_enter Tryz.func62, Tryz.ntmps62
 go_wp2
 go_loopw [6, 7] (fun u i wr => (u = .slice none 0 0 ∧ i = .int .i64 0 ∧ wr = w) ∨ (∃ L m c, u = .slice L m c ∧ i = .int .i64 (E : Int) ∧ m = l.length ∧ m ≤ c ∧ c ≤ maxLen ∧ OwnE wr w.heap.size L m c (l.map canE) ∧ Below w.heap.size w wr)) (fun _ i _ => E - (intOf i).toNat)
 case atStart => exact .inl ⟨rfl, rfl, rfl⟩
 case round =>
  rcases hrel with ⟨rfl, rfl, hw⟩ | ⟨L, m, c, rfl, rfl, hm, hmc, hcm2, ho, hb⟩
  ·have hw := hw.symm
   subst hw
   go_wp2_with (first
    | (go_at_call 75; (with_reducible refine (HRD.out w (Below.refl _ _)).mono ?_); rintro e w2 ⟨L, m, rfl, h1, h2, h3⟩; have HM := Lib.hid h1; have HE2 := Lib.hid h2; have HB2 := Lib.hid h3; have hm6 : m ≤ 320 := (by omega); have hs2 := h3.size; clear h1 h2 h3)
    | (at_builtin; refine wpList_append_evG rfl _ _ rfl w.heap.size none 0 0 [] rfl (ownE_nilO _ _) (some ⟨L, 0, none⟩) m m (l.map canE) rfl (by rw [List.length_map]; exact HM.out) HE2.out (fun h => by cases h) m (Nat.zero_add m).symm (by omega) hs2 ?_; intro A3 c3 w3 ho3 h31 h32 h33 hb3 _ _; rw [List.nil_append] at ho3; have HO3 := Lib.hid ho3; have HC3 := Lib.hid (And.intro h31 h32); have HB3 := Lib.hid (HB2.out.trans hb3); clear ho3 h31 h32 h33 hb3))
   go_roundw
   case rel => exact .inr ⟨A3, m, c3, rfl, rfl, HM.out, HC3.out.1, HC3.out.2, HO3.out, HB3.out⟩
   case measure => have := HZ.out; simp [intOf]; omega
  ·have HM := Lib.hid hm; have HO := Lib.hid ho; have HB := Lib.hid hb; have HC := Lib.hid (And.intro hmc hcm2)
   have hEN : ¬ ((E : Int) < (N : Int)) := by have := HZ.out; omega
   clear hm ho hb hmc hcm2
   go_wp2
   exact bodyPost_ret (results_tmp2O rfl _ _ _) rfl ⟨L, m, c, rfl, HM.out, HC.out.1, HC.out.2, HO.out, HB.out⟩
end Go.Proofs.YtjldamkmdkaiiaaGreatDoor
