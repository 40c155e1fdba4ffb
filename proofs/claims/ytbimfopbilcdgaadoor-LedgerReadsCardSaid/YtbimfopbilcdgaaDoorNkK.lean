/-
  Layer ledger: View.
-/
import Derived.Laws.IdiomRangeMap
import Derived.Test.YtbimfopbilcdgaaDoorNjK
set_option linter.unusedSimpArgs false
set_option linter.unusedVariables false
set_option maxRecDepth 8000
namespace Go.Proofs.YtbimfopbilcdgaaDoor
open Go.RowKit Go.Sort

/-- The panes that are there, of a map. -/
def InV (F : Pl → Option Pn) (lf : Pl → Bool) (vs : List Pw) : Prop := (∀ y : Pw, y ∈ vs ↔ y.p.Ok ∧ lf y.p = false ∧ ∃ x, F y.p = some x ∧ x.th = true ∧ x.t = y.t) ∧ (vs.map (·.p)).Nodup
theorem inV_start (F : Pl → Option Pn) : InV F (fun p => (F p).isSome) [] := by
  refine ⟨fun y => ?_, List.nodup_nil⟩
  constructor
  · intro h; cases h
  · rintro ⟨-, h, x, hx, -⟩
    have h : (F y.p).isSome = false := h
    rw [hx] at h; cases h
theorem inV_no {F : Pl → Option Pn} {lf : Pl → Bool} {vs : List Pw} (h : InV F lf vs) {p : Pl} {x : Pn} (hF : F p = some x) (hx : x.th = false) : InV F (fun q => lf q && !decide (q = p)) vs := by
  refine ⟨fun y => ?_, h.2⟩
  rw [h.1 y]
  constructor
  · rintro ⟨h1, h2, h3⟩; exact ⟨h1, by show (lf y.p && _) = false; rw [h2]; rfl, h3⟩
  · rintro ⟨h1, h2, z, hz, hth, ht⟩
    refine ⟨h1, ?_, z, hz, hth, ht⟩
    by_cases e : y.p = p
    · rw [e, hF] at hz; injection hz with hz; rw [← hz, hx] at hth; cases hth
    · simpa [e] using h2
theorem inV_yes {F : Pl → Option Pn} {lf : Pl → Bool} {vs : List Pw} (h : InV F lf vs) {p : Pl} {x : Pn} (hp : p.Ok) (hF : F p = some x) (hx : x.th = true) (hl : lf p = true) : InV F (fun q => lf q && !decide (q = p)) (vs ++ [⟨p, x.t⟩]) := by
  refine ⟨fun y => ?_, ?_⟩
  · rw [List.mem_append, List.mem_singleton, h.1 y]
    constructor
    · rintro (⟨h1, h2, h3⟩ | rfl)
      · exact ⟨h1, by show (lf y.p && _) = false; rw [h2]; rfl, h3⟩
      · exact ⟨hp, by simp, x, hF, hx, rfl⟩
    · rintro ⟨h1, h2, z, hz, hth, ht⟩
      by_cases e : y.p = p
      · right
        rw [e, hF] at hz; injection hz with hz
        obtain ⟨yp, yt⟩ := y
        simp only at e ht
        rw [e, ← ht, ← hz]
      · left; exact ⟨h1, by simpa [e] using h2, z, hz, hth, ht⟩
  · rw [List.map_append, List.nodup_append]
    refine ⟨h.2, by simp, fun a ha b hb => ?_⟩
    simp at hb; subst hb
    obtain ⟨y, hy, rfl⟩ := List.mem_map.1 ha
    have := ((h.1 y).1 hy).2.1
    intro e
    rw [e, hl] at this; cases this
/-- How a view's row lies beside an iterator. -/
theorem OwnPw.notIter {w : World} {B n cap r : Nat} {A : Option Addr} {l : List Pw} (h : OwnPw w B A n cap l) {m : Option Nat} {a b : Nat} {s : Array Nat} (hr : w.heap[r]? = some (.mapIter m a s b)) : some r ≠ (Value.slice A n cap).ownBlock := by
  rcases h.2 with ⟨e0, -⟩ | ⟨g', cap', cur, e0, -, h2, -⟩
  · rw [e0]; intro e; cases e
  · rw [e0]; intro e
    have e : r = g' := by injection e
    subst e
    rw [hr] at h2
    injection h2 with h2; cases h2
theorem OwnPw.notMap {w : World} {B n cap b m : Nat} {A : Option Addr} {l : List Pw} {F : Pl → Option Pn} (h : OwnPw w B A n cap l) (hb : MapOf w b m F) : some b ≠ (Value.slice A n cap).ownBlock := by
  obtain ⟨D, ⟨es, clock, h1, -⟩, -⟩ := hb
  rcases h.2 with ⟨e0, -⟩ | ⟨g', cap', cur, e0, -, h2, -⟩
  · rw [e0]; intro e; cases e
  · rw [e0]; intro e
    have e : b = g' := by injection e
    subst e
    rw [h1] at h2
    injection h2 with h2; cases h2
theorem RangesOf.iter {w : World} {b r n cnt : Nat} {F : Pl → Option Pn} {lf : Pl → Bool} (h : RangesOf w b r n F lf cnt) : ∃ m a s c, w.heap[r]? = some (.mapIter m a s c) := by
  obtain ⟨D, left, ⟨es, clock, since, seen, c0, h1, h2, h3, h4, h5, h6⟩, h7, h8⟩ := h
  exact ⟨_, _, _, _, h5⟩
theorem OwnPw.caps {w : World} {B n cap : Nat} {A : Option Addr} {l : List Pw} (h : OwnPw w B A n cap l) : n ≤ cap ∧ cap ≤ maxLen ∧ (A = none → cap = 0) := by
  obtain ⟨A1, c1, e, h1, h2, h3⟩ := pw_roslice h
  injection e with e1 e2 e3
  subst e1; subst e3
  exact ⟨h1, h2, h3⟩
theorem pwAt_new' (w : World) (g : Nat) (l : List Pw) (cs : Array Value) (hcs : cs.toList = pws l) (T : TypeId) (hg : g = w.heap.size) : PwAt (w.alloc (.cells cs T)) (some ⟨g, 0, none⟩) l := by subst hg; exact pwAt_new w l cs hcs T
/-- What View ends with. -/
def VwEnd (W : World) (F : Pl → Option Pn) (e : Ending) (w' : World) : Prop := ∃ (A : Option Addr) (n cap : Nat) (vs : List Pw), e = .returned (.slice A n cap) ∧ OwnPw w' W.heap.size A n cap (sortP vs) ∧ (∀ y : Pw, y ∈ vs ↔ y.p.Ok ∧ ∃ x, F y.p = some x ∧ x.th = true ∧ x.t = y.t) ∧ (vs.map (·.p)).Nodup ∧ Below W.heap.size W w'
/-- What its rounds hold. -/
def RVW (W : World) (b m : Nat) (F : Pl → Option Pn) (u : Value) (wr : World) : Prop := ∃ (lf : Pl → Bool) (cnt : Nat) (A : Option Addr) (cap : Nat) (vs : List Pw), u = .slice A vs.length cap ∧ RangesOf wr b W.heap.size m F lf cnt ∧ OwnPw wr W.heap.size A vs.length cap vs ∧ vs.length + cnt ≤ m ∧ InV F lf vs ∧ Below W.heap.size W wr
set_option maxHeartbeats 4000000 in
theorem view_any {S : Nat → Prop} (g : Nat) (l : List Chg) (W : World) (hL : LedE S W g l) (hlen : l.length ≤ 900) (h12 : ∀ vs : List Pl, vs.Nodup → (∀ p ∈ vs, lastF l p ≠ none) → vs.length ≤ 12) : Calls Tryd.prog 8 #[.pointer (some ⟨g, 0, none⟩)] W (VwEnd W (lastF l)) := by
  obtain ⟨A0, n0, cap0, mv, M, hL⟩ := hL
  have hc := cell_of_row W g 1 _ _ _ hL.row
  have HML : Hid (M ≤ 900) := Lib.hid (by have := hL.ml; omega)
  have hm := hL.map
  clear hL
  have H12 := Lib.hid h12
  clear h12
  generalize lastF l = F at *
  clear hlen
  rcases hm with ⟨rfl, rfl⟩ | ⟨b, rfl, hm⟩
  · have h1 := fun w => @run_range_nilMap Tryd.prog w 30 _ _ Tryd.underlying30
    have h2 := @run_next_nilMap Tryd.prog
    have HSF := Lib.hid fun (w : World) (hB : W.heap.size ≤ w.heap.size) => sortFunc_any W.heap.size none 0 0 [] w (OwnPw.nil _ _) hB (by decide)
    go_enter Tryd.func8, Tryd.ntmps8
    go_wp2
    refine wp_loop_rounds 1 ?_
    rw [rounds_succ]
    clear h1
    go_wp2_with (go_at_call 20; refine (HSF.out _ (by simp)).mono ?_; rintro e w2 ⟨rfl, ho2, hb2⟩; have HO2 := Lib.hid ho2; have HB2 := Lib.hid hb2; clear ho2 hb2)
    go_ret
    refine ⟨none, 0, 0, [], rfl, HO2.out, fun y => ?_, List.nodup_nil, ((Below.refl _ _).alloc (Nat.le_refl _) _).trans HB2.out⟩
    constructor
    · intro h; cases h
    · rintro ⟨-, x, hx, -⟩; cases hx
  · have HM := Lib.hid hm
    have HBL := Lib.hid hm.lt
    clear hm
    go_enter Tryd.func8, Tryd.ntmps8
    go_wp2_with (first | (at_range; refine wpList_rangeM rfl _ rfl b M F rfl HM.out ?_; intro w0 cnt0 hrg0 hcn0 hg0 hs0) | go_in)
    go_frame
    have HS0 := Lib.hid (show RVW W b M F (.slice none 0 0) w0 from ⟨_, cnt0, none, 0, [], rfl, hrg0, OwnPw.nil _ _, by simpa using hcn0, inV_start F, ⟨hg0.os, hg0.tape, hg0.output, hg0.size, fun k hk => hg0.block k hk (by simp)⟩⟩)
    clear hrg0 hcn0 hg0 hs0
    go_loopw [3] (fun u wr => RVW W b M F u wr) (fun _ wr => wr.rangeLeft b W.heap.size)
    case atStart => exact HS0.out
    case round =>
      obtain ⟨lf, cnt, A, cap, vs, rfl, hrg, ho, hle, hin, hb⟩ := hrel
      have HRG := Lib.hid hrg; have HO := Lib.hid ho; have HLE := Lib.hid hle; have HIN := Lib.hid hin; have HB := Lib.hid hb
      clear hrg ho hle hin hb
      go_wp2_with (first
        | (at_next; refine wpList_nextM rfl _ rfl b W.heap.size M F lf cnt rfl HRG.out ?_ ?_)
        | go_in)
      · intro hc0 hl0
        have HE := Lib.hid hl0
        have h13 : vs.length ≤ 12 := by
          have h := H12.out (vs.map (·.p)) HIN.out.2 (fun p hp => by
            obtain ⟨y, hy, rfl⟩ := List.mem_map.1 hp
            obtain ⟨-, -, x, hx, -⟩ := (HIN.out.1 y).1 hy
            rw [hx]; exact Option.some_ne_none _)
          rwa [List.length_map] at h
        have HSF := Lib.hid (sortFunc_any W.heap.size A vs.length cap vs wr HO.out HB.out.size h13)
        clear hl0 hc0 h13
        go_wp2_with (go_at_call 20; refine HSF.out.mono ?_; rintro e w2 ⟨rfl, ho2, hb2⟩; have HO2 := Lib.hid ho2; have HB2 := Lib.hid hb2; clear ho2 hb2)
        go_ret
        refine ⟨A, vs.length, cap, vs, rfl, HO2.out, fun y => ?_, HIN.out.2, HB.out.trans HB2.out⟩
        rw [HIN.out.1 y]
        constructor
        · rintro ⟨h1, -, h3⟩; exact ⟨h1, h3⟩
        · rintro ⟨h1, h3⟩; exact ⟨h1, HE.out _ h1, h3⟩
      · intro p x w1 cnt1 hp hx hFp hlp hrg1 hlt hg1 hs1 hen
        have HR1 := Lib.hid hrg1; have HLT := Lib.hid hlt
        have HO1 : Hid (OwnPw w1 W.heap.size A vs.length cap vs) := Lib.hid (HO.out.same (fun g' off e => hg1.block g' (HO.out.lt g' off e).1 (by
          obtain ⟨m1, a1, s1, c1, hit⟩ := HRG.out.iter
          intro e2
          refine HO.out.notIter hit ?_
          rw [← e2, e]; rfl)))
        have HB1 : Hid (Below W.heap.size W w1) := Lib.hid (HB.out.trans ⟨hg1.os, hg1.tape, hg1.output, hg1.size, fun k hk => hg1.block k (Nat.lt_of_lt_of_le hk HB.out.size) (by intro e; injection e with e; omega)⟩)
        obtain ⟨th, rev, t⟩ := x
        cases th
        · have HIN2 := Lib.hid (inV_no HIN.out hFp rfl)
          clear hp hx hFp hlp hrg1 hlt hg1 hs1
          have HB2 := Lib.hid (((Below.refl w1.heap.size w1).alloc (Nat.le_refl _) (.cells #[.string p.key, .int .i64 p.s, .int .i64 p.e] 62)).alloc (by simp) (.cells #[.bool false, .int .u64 (rev : Int), .int .u64 (t.c : Int), .float .f64 t.s, .bool t.o, .float .f64 t.lo, .float .f64 t.hi] 64))
          have HR2 : Hid (RangesOf ((w1.alloc (.cells #[.string p.key, .int .i64 p.s, .int .i64 p.e] 62)).alloc (.cells #[.bool false, .int .u64 (rev : Int), .int .u64 (t.c : Int), .float .f64 t.s, .bool t.o, .float .f64 t.lo, .float .f64 t.hi] 64)) b W.heap.size M F (fun q => lf q && !decide (q = p)) cnt1) := Lib.hid (HR1.out.same (HB2.out.block b HR1.out.map.lt) (HB2.out.block _ HR1.out.lt))
          have HO2 : Hid (OwnPw ((w1.alloc (.cells #[.string p.key, .int .i64 p.s, .int .i64 p.e] 62)).alloc (.cells #[.bool false, .int .u64 (rev : Int), .int .u64 (t.c : Int), .float .f64 t.s, .bool t.o, .float .f64 t.lo, .float .f64 t.hi] 64)) W.heap.size A vs.length cap vs) := Lib.hid (HO1.out.below HB2.out (fun g' off e => (HO1.out.lt g' off e).1))
          have HBW : Hid (Below W.heap.size W ((w1.alloc (.cells #[.string p.key, .int .i64 p.s, .int .i64 p.e] 62)).alloc (.cells #[.bool false, .int .u64 (rev : Int), .int .u64 (t.c : Int), .float .f64 t.s, .bool t.o, .float .f64 t.lo, .float .f64 t.hi] 64))) := Lib.hid (HB1.out.trans (HB2.out.mono HB1.out.size))
          go_wp2_with (first
            | (refine wpList_store_fresh2 rfl 62 (.tmp 4) (.tmp 16) rfl _ _ _ _ _ rfl (by simp) rfl iPl rfl (onePl p) ?_)
            | (refine wpList_store_fresh rfl 64 (.tmp 5) (.tmp 17) rfl _ _ _ _ rfl (by simp) rfl iPn rfl (onePn ⟨false, rev, t⟩) ?_))
          go_roundw
          case rel => exact ⟨_, cnt1, A, cap, vs, rfl, HR2.out, HO2.out, by have := HLE.out; have := HLT.out; omega, HIN2.out, HBW.out⟩
          case measure => rw [HR2.out.left_eq, HRG.out.left_eq]; exact HLT.out
        · have HIN2 := Lib.hid (inV_yes HIN.out hp hFp rfl hlp)
          clear hp hx hFp hlp hrg1 hlt hg1 hs1
          have HB2 := Lib.hid ((((Below.refl w1.heap.size w1).alloc (Nat.le_refl _) (.cells #[.string p.key, .int .i64 p.s, .int .i64 p.e] 62)).alloc (by simp) (.cells #[.bool true, .int .u64 (rev : Int), .int .u64 (t.c : Int), .float .f64 t.s, .bool t.o, .float .f64 t.lo, .float .f64 t.hi] 64)).alloc (by simp; omega) (.cells #[.string p.key, .int .i64 p.s, .int .i64 p.e, .int .u64 (t.c : Int), .float .f64 t.s, .bool t.o, .float .f64 t.lo, .float .f64 t.hi] 40))
          have HR2 : Hid (RangesOf (((w1.alloc (.cells #[.string p.key, .int .i64 p.s, .int .i64 p.e] 62)).alloc (.cells #[.bool true, .int .u64 (rev : Int), .int .u64 (t.c : Int), .float .f64 t.s, .bool t.o, .float .f64 t.lo, .float .f64 t.hi] 64)).alloc (.cells #[.string p.key, .int .i64 p.s, .int .i64 p.e, .int .u64 (t.c : Int), .float .f64 t.s, .bool t.o, .float .f64 t.lo, .float .f64 t.hi] 40)) b W.heap.size M F (fun q => lf q && !decide (q = p)) cnt1) := Lib.hid (HR1.out.same (HB2.out.block b HR1.out.map.lt) (HB2.out.block _ HR1.out.lt))
          have HO2 : Hid (OwnPw (((w1.alloc (.cells #[.string p.key, .int .i64 p.s, .int .i64 p.e] 62)).alloc (.cells #[.bool true, .int .u64 (rev : Int), .int .u64 (t.c : Int), .float .f64 t.s, .bool t.o, .float .f64 t.lo, .float .f64 t.hi] 64)).alloc (.cells #[.string p.key, .int .i64 p.s, .int .i64 p.e, .int .u64 (t.c : Int), .float .f64 t.s, .bool t.o, .float .f64 t.lo, .float .f64 t.hi] 40)) W.heap.size A vs.length cap vs) := Lib.hid (HO1.out.below HB2.out (fun g' off e => (HO1.out.lt g' off e).1))
          have HBW : Hid (Below W.heap.size W (((w1.alloc (.cells #[.string p.key, .int .i64 p.s, .int .i64 p.e] 62)).alloc (.cells #[.bool true, .int .u64 (rev : Int), .int .u64 (t.c : Int), .float .f64 t.s, .bool t.o, .float .f64 t.lo, .float .f64 t.hi] 64)).alloc (.cells #[.string p.key, .int .i64 p.s, .int .i64 p.e, .int .u64 (t.c : Int), .float .f64 t.s, .bool t.o, .float .f64 t.lo, .float .f64 t.hi] 40))) := Lib.hid (HB1.out.trans (HB2.out.mono HB1.out.size))
          go_wp2_with (first
            | (refine wpList_store_fresh2 rfl 62 (.tmp 4) (.tmp 16) rfl _ _ _ _ _ rfl (by simp) rfl iPl rfl (onePl p) ?_)
            | (refine wpList_store_fresh rfl 64 (.tmp 5) (.tmp 17) rfl _ _ _ _ rfl (by simp) rfl iPn rfl (onePn ⟨true, rev, t⟩) ?_)
            | (at_builtin; refine wpList_append_pw rfl _ _ rfl W.heap.size A vs.length cap vs rfl HO2.out (some ⟨w1.heap.size + 1 + 1, 0, none⟩) 1 1 [⟨p, t⟩] rfl rfl (pwAt_new' _ _ [⟨p, t⟩] _ rfl _ (by simp)) (fun h => by cases h) (vs.length + 1) rfl (by have := HLE.out; have := HML.out; omega) HBW.out.size ?_; intro A2 c2 w2 ho2 hc2 hm2 hn2 hb2 hg2 ha2; have HO3 := Lib.hid ho2; have HB3 := Lib.hid (HBW.out.trans hb2); have HR3 : Hid (RangesOf w2 b W.heap.size M F (fun q => lf q && !decide (q = p)) cnt1) := Lib.hid (by
                obtain ⟨m1, a1, s1, c1, hit⟩ := HR2.out.iter
                exact HR2.out.same ((grown_or hg2).2.2.2.2 b HR2.out.map.lt (HO2.out.notMap HR2.out.map)) ((grown_or hg2).2.2.2.2 _ HR2.out.lt (HO2.out.notIter hit))); clear ho2 hc2 hm2 hn2 hb2 hg2 ha2))
          go_roundw
          case rel => exact ⟨_, cnt1, A2, c2, vs ++ [⟨p, t⟩], by rw [List.length_append]; rfl, HR3.out, by rw [List.length_append]; exact HO3.out, by rw [List.length_append]; have := HLE.out; have := HLT.out; simp; omega, HIN2.out, HB3.out⟩
          case measure => rw [HR3.out.left_eq, HRG.out.left_eq]; exact HLT.out
end Go.Proofs.YtbimfopbilcdgaaDoor
