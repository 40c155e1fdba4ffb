/-
  Layer ledger: Add, Len, All.
-/
import Derived.Test.YtkhldnihboklaaaNf
set_option linter.unusedSimpArgs false
set_option linter.unusedVariables false
set_option maxRecDepth 8000
namespace Go.Proofs.Ytkhldnihboklaaa
open Go.RowKit Go.Sort

/-- A ledger that has some changes; all of it lies in the blocks S. -/
structure Led (S : Nat → Prop) (w : World) (g : Nat) (l : List Chg) (A : Option Addr) (n cap : Nat) (mv : Value) (M : Nat) : Prop where
  row : w.heap[g]? = some (.cells #[.slice A n cap, mv] 27 (0, 0))
  own : OwnCh w 0 A n cap l
  nc : n ≤ cap
  cm : cap ≤ maxLen
  nl : A = none → cap = 0
  sA : ∀ g' off, A = some ⟨g', off, none⟩ → S g'
  map : MapV w mv M (lastF l)
  sm : ∀ b, mv = .map (some b) → S b
  sg : S g
  lt : ∀ k, S k → k < w.heap.size
  ml : M ≤ l.length
  val : Val l
  ok : ∀ c ∈ l, c.Ok
def LedE (S : Nat → Prop) (w : World) (g : Nat) (l : List Chg) : Prop := ∃ A n cap mv M, Led S w g l A n cap mv M
theorem MapV.same {w w' : World} {mv : Value} {M : Nat} {F : Pl → Option Pn} (h : MapV w mv M F) (hk : ∀ b, mv = .map (some b) → w'.heap[b]? = w.heap[b]?) : MapV w' mv M F := by
  rcases h with h | ⟨b, rfl, hm⟩
  · exact .inl h
  · exact .inr ⟨b, rfl, hm.same (hk b rfl)⟩
theorem Led.same {S : Nat → Prop} {w w' : World} {g : Nat} {l : List Chg} {A : Option Addr} {n cap : Nat} {mv : Value} {M : Nat} (h : Led S w g l A n cap mv M) (hk : ∀ k, S k → w'.heap[k]? = w.heap[k]?) (hs : w.heap.size ≤ w'.heap.size) : Led S w' g l A n cap mv M :=
  ⟨(hk g h.sg).trans h.row, h.own.same (fun g' off e => hk g' (h.sA g' off e)), h.nc, h.cm, h.nl, h.sA, h.map.same (fun b e => hk b (h.sm b e)), h.sm, h.sg, fun k hS => Nat.lt_of_lt_of_le (h.lt k hS) hs, h.ml, h.val, h.ok⟩
theorem LedE.same {S : Nat → Prop} {w w' : World} {g : Nat} {l : List Chg} (h : LedE S w g l) (hk : ∀ k, S k → w'.heap[k]? = w.heap[k]?) (hs : w.heap.size ≤ w'.heap.size) : LedE S w' g l := by
  obtain ⟨A, n, cap, mv, M, h⟩ := h
  exact ⟨A, n, cap, mv, M, h.same hk hs⟩
theorem LedE.below {S : Nat → Prop} {w w' : World} {g : Nat} {l : List Chg} (h : LedE S w g l) (hb : Below w.heap.size w w') : LedE S w' g l := by
  obtain ⟨A, n, cap, mv, M, h⟩ := h
  exact ⟨A, n, cap, mv, M, h.same (fun k hS => hb.block k (h.lt k hS)) hb.size⟩
theorem LedE.lt {S : Nat → Prop} {w : World} {g : Nat} {l : List Chg} (h : LedE S w g l) (k : Nat) (hk : S k) : k < w.heap.size := by obtain ⟨A, n, cap, mv, M, h⟩ := h; exact h.lt k hk
theorem led_new (w : World) (cs : Array Value) (hc : cs = #[.slice none 0 0, .map none]) : LedE (fun k => k = w.heap.size) (w.alloc (.cells cs 27)) w.heap.size [] := by
  subst hc
  exact ⟨none, 0, 0, .map none, 0, heap_new w _, OwnCh.nil _ _, Nat.le_refl _, Nat.zero_le _, fun _ => rfl, fun _ _ e => (by cases e), .inl ⟨rfl, rfl⟩, fun b e => (by cases e), rfl, fun k hk => by subst hk; simp, Nat.le_refl _, rfl, fun c hc => (by cases hc)⟩
theorem OwnCh.notRow {w : World} {B n cap g : Nat} {A : Option Addr} {l : List Chg} (h : OwnCh w B A n cap l) {cs : Array Value} {fr : Nat × Nat} (hg : w.heap[g]? = some (.cells cs 27 fr)) : some g ≠ (Value.slice A n cap).ownBlock := by
  rcases h.2 with ⟨e0, -⟩ | ⟨g', cap', cur, e0, -, h2, -⟩
  · rw [e0]; intro e; cases e
  · rw [e0]; intro e
    have e : g = g' := by injection e
    subst e
    rw [hg] at h2
    injection h2 with h2; injection h2 with h2 h3
    exact absurd h3 (by decide)
theorem OwnCh.notMap {w : World} {B n cap b m : Nat} {A : Option Addr} {l : List Chg} {F : Pl → Option Pn} (h : OwnCh w B A n cap l) (hb : MapOf w b m F) : some b ≠ (Value.slice A n cap).ownBlock := by
  obtain ⟨D, ⟨es, clock, h1, -⟩, -⟩ := hb
  rcases h.2 with ⟨e0, -⟩ | ⟨g', cap', cur, e0, -, h2, -⟩
  · rw [e0]; intro e; cases e
  · rw [e0]; intro e
    have e : b = g' := by injection e
    subst e
    rw [h1] at h2
    injection h2 with h2; cases h2
theorem OwnCh.addr {w : World} {B n cap g : Nat} {A : Option Addr} {l : List Chg} (h : OwnCh w B A n cap l) (hg : some g ≠ (Value.slice A n cap).ownBlock) : ∀ g' off, A = some ⟨g', off, none⟩ → g' ≠ g := by
  intro g' off e e2
  subst e; subst e2
  exact hg rfl
theorem row_notMap {w : World} {g b m : Nat} {cs : Array Value} {T : TypeId} {fr : Nat × Nat} {F : Pl → Option Pn} (hg : w.heap[g]? = some (.cells cs T fr)) (hb : MapOf w b m F) : g ≠ b := by
  obtain ⟨D, ⟨es, clock, h1, -⟩, -⟩ := hb
  intro e
  subst e
  rw [hg] at h1; injection h1 with h1; cases h1
theorem OwnCh.keptM {w w' : World} {B n cap b m : Nat} {A : Option Addr} {l : List Chg} {F : Pl → Option Pn} (h : OwnCh w B A n cap l) (hb : MapOf w b m F) (hk : Kept (fun k => k = b) w w') : OwnCh w' B A n cap l :=
  h.same (fun g' off e => hk.block g' (h.lt g' off e).1 (fun e2 => h.notMap hb (by subst e; rw [e2]; rfl)))
theorem grown_or {w w' : World} {row : Option Nat} (h : w.grownBy w' row ∨ w' = w) : w'.os = w.os ∧ w'.tape = w.tape ∧ w'.output = w.output ∧ w.heap.size ≤ w'.heap.size ∧ ∀ k, k < w.heap.size → some k ≠ row → w'.heap[k]? = w.heap[k]? := by
  rcases h with h | rfl
  · exact ⟨h.os, h.tape, h.output, h.size, h.block⟩
  · exact ⟨rfl, rfl, rfl, Nat.le_refl _, fun _ _ _ => rfl⟩
/-- What stands when the map is there, ahead of Copy. -/
structure Pre (S : Nat → Prop) (W : World) (g : Nat) (l0 more : List Chg) (A : Option Addr) (nA capA : Nat) (A1 : Option Addr) (n cap1 : Nat) (db M b m : Nat) (G : Pl → Option Pn) (w : World) : Prop where
  row : w.heap[g]? = some (.cells #[.slice A nA capA, .map (some db)] 27 (0, 0))
  own : OwnCh w 0 A nA capA l0
  o1 : OwnCh w W.heap.size A1 n cap1 more
  mp : MapOf w db M (lastF l0)
  mg : MapOf w b m G
  ne : db ≠ b
  kept : Kept S W w
  hdb : S db ∨ W.heap.size ≤ db
  ml : M ≤ l0.length
  mm : m ≤ more.length
/-- .. and behind it. -/
structure Aft (S : Nat → Prop) (W : World) (g : Nat) (l0 more : List Chg) (A : Option Addr) (nA capA : Nat) (A1 : Option Addr) (n cap1 : Nat) (db M : Nat) (w : World) : Prop where
  row : w.heap[g]? = some (.cells #[.slice A nA capA, .map (some db)] 27 (0, 0))
  own : OwnCh w 0 A nA capA l0
  o1 : OwnCh w W.heap.size A1 n cap1 more
  mp : MapOf w db M (lastF (l0 ++ more))
  kept : Kept S W w
  hdb : S db ∨ W.heap.size ≤ db
  ml : M ≤ (l0 ++ more).length
theorem Pre.aft {S : Nat → Prop} {W : World} {g : Nat} {l0 more : List Chg} {A : Option Addr} {nA capA : Nat} {A1 : Option Addr} {n cap1 db M b m : Nat} {G : Pl → Option Pn} {w w' : World} (h : Pre S W g l0 more A nA capA A1 n cap1 db M b m G w)
    (hm : MapOf w' db (M + m) (ov (lastF l0) G)) (hk : Kept (fun k => k = db) w w') (hov : ov (lastF l0) G = lastF (l0 ++ more)) : Aft S W g l0 more A nA capA A1 n cap1 db (M + m) w' :=
  ⟨hk.heap h.row (row_notMap h.row h.mp), h.own.keptM h.mp hk, h.o1.keptM h.mp hk, hov ▸ hm, h.kept.trans' hk (fun i hi => by rw [hi]; exact h.hdb), h.hdb, by rw [List.length_append]; have := h.ml; have := h.mm; omega⟩
/-- .. and behind append. -/
structure Fin5 (S : Nat → Prop) (W : World) (g : Nat) (l0 more : List Chg) (A5 : Option Addr) (n5 cap5 : Nat) (A : Option Addr) (nA capA : Nat) (db M : Nat) (w : World) : Prop where
  row : w.heap[g]? = some (.cells #[.slice A nA capA, .map (some db)] 27 (0, 0))
  own : OwnCh w 0 A5 n5 cap5 (l0 ++ more)
  mp : MapOf w db M (lastF (l0 ++ more))
  kept : Kept S W w
  hdb : S db ∨ W.heap.size ≤ db
  ml : M ≤ (l0 ++ more).length
  nc : n5 ≤ cap5
  cm : cap5 ≤ maxLen
  nl : A5 = none → cap5 = 0
  sA : ∀ g' off, A5 = some ⟨g', off, none⟩ → S g' ∨ W.heap.size ≤ g'
theorem Aft.fin {S : Nat → Prop} {W : World} {g : Nat} {l0 more : List Chg} {A : Option Addr} {nA capA : Nat} {A1 : Option Addr} {n cap1 db M : Nat} {w w' : World} (h : Aft S W g l0 more A nA capA A1 n cap1 db M w) (hsA : ∀ g' off, A = some ⟨g', off, none⟩ → S g')
    {A5 : Option Addr} {n5 cap5 : Nat} (ho : OwnCh w' 0 A5 n5 cap5 (l0 ++ more)) (h1 : n5 ≤ cap5) (h2 : cap5 ≤ maxLen) (h3 : A5 = none → cap5 = 0) (hg : w.grownBy w' (Value.slice A nA capA).ownBlock ∨ w' = w) (hA : A5 = A ∨ ∃ g', A5 = some ⟨g', 0, none⟩ ∧ w.heap.size ≤ g') : Fin5 S W g l0 more A5 n5 cap5 A nA capA db M w' := by
  obtain ⟨e1, e2, e3, e4, e5⟩ := grown_or hg
  have hgl := (Array.getElem?_eq_some_iff.1 h.row).1
  refine ⟨(e5 g hgl (h.own.notRow h.row)).trans h.row, ho, h.mp.same (e5 db h.mp.lt (h.own.notMap h.mp)), ?_, h.hdb, h.ml, h1, h2, h3, ?_⟩
  · refine h.kept.trans' (S' := fun k => some k = (Value.slice A nA capA).ownBlock) ⟨e1, e2, e3, e4, fun k hk hs => e5 k hk hs⟩ (fun i hi => ?_)
    rcases ch_roaddr h.own with rfl | ⟨g', rfl⟩
    · cases hi
    · have : i = g' := by injection hi
      subst this; exact .inl (hsA _ _ rfl)
  · intro g' off e
    rcases hA with rfl | ⟨g2, e2, h5⟩
    · exact .inl (hsA _ _ e)
    · rw [e2] at e; injection e with e; injection e with e _; subst e
      exact .inr (Nat.le_trans h.kept.size h5)
theorem Fin5.led {S : Nat → Prop} {W : World} {g : Nat} {l0 more : List Chg} {A5 : Option Addr} {n5 cap5 : Nat} {A : Option Addr} {nA capA db M : Nat} {w : World} (h : Fin5 S W g l0 more A5 n5 cap5 A nA capA db M w) (hsg : S g) (hlt : ∀ k, S k → k < W.heap.size) (hv : Val (l0 ++ more)) (hok : ∀ c ∈ l0 ++ more, c.Ok) :
    Kept S W (w.setCell ⟨g, 0, none⟩ (.slice A5 n5 cap5)) ∧ LedE (fun k => S k ∨ (W.heap.size ≤ k ∧ k < (w.setCell ⟨g, 0, none⟩ (.slice A5 n5 cap5)).heap.size)) (w.setCell ⟨g, 0, none⟩ (.slice A5 n5 cap5)) g (l0 ++ more) := by
  have hsz : (w.setCell ⟨g, 0, none⟩ (.slice A5 n5 cap5)).heap.size = w.heap.size := by simp [World.setCell]
  refine ⟨h.kept.setCell _ _ (.inl hsg), A5, n5, cap5, .map (some db), M, ?_⟩
  refine ⟨heap_setCell_same w g 0 _ _ _ h.row, h.own.same (fun g' off e => Below.heap_setCell _ _ _ _ (h.own.addr (h.own.notRow h.row) g' off e)), h.nc, h.cm, h.nl, ?_, .inr ⟨db, rfl, h.mp.same (Below.heap_setCell _ _ _ _ (Ne.symm (row_notMap h.row h.mp)))⟩, ?_, .inl hsg, ?_, h.ml, hv, hok⟩
  · intro g' off e
    rcases h.sA g' off e with h1 | h1
    · exact .inl h1
    · exact .inr ⟨h1, by rw [hsz]; exact (h.own.lt g' off e).1⟩
  · intro b e
    injection e with e; injection e with e
    subst e
    rcases h.hdb with h1 | h1
    · exact .inl h1
    · exact .inr ⟨h1, by rw [hsz]; exact h.mp.lt⟩
  · intro k hk
    rcases hk with h1 | ⟨h1, h2⟩
    · rw [hsz]; exact Nat.lt_of_lt_of_le (hlt k h1) h.kept.size
    · exact h2
/-- What Add ends with. -/
def AddEnd (S : Nat → Prop) (W : World) (g : Nat) (l0 more : List Chg) (e : Ending) (w' : World) : Prop := Kept S W w' ∧ ((e = .returned (.int .i64 7) ∧ accB l0 more = false ∧ LedE S w' g l0) ∨ (e = .returned (.int .i64 0) ∧ accB l0 more = true ∧ LedE (fun k => S k ∨ (W.heap.size ≤ k ∧ k < w'.heap.size)) w' g (l0 ++ more)))
set_option maxHeartbeats 4000000 in
theorem add_any {S : Nat → Prop} (g : Nat) (l0 : List Chg) (a : Option Addr) (n c : Nat) (more : List Chg) (hn : n = more.length) (hlen : l0.length + n ≤ 900) (hs : SlC a n c) (hok : ∀ x ∈ more, x.Ok) (W : World) (H : Hid (ChAt W a more)) (hL : LedE S W g l0) :
    Calls Try.prog 10 #[.pointer (some ⟨g, 0, none⟩), .slice a n c] W (AddEnd S W g l0 more) := by
  obtain ⟨A, nA, capA, mv, M, hL⟩ := hL
  have HL := Lib.hid hL
  have HOW := Lib.hid (ownKeys_any a n c more hn (by omega) hs (fun x hx => (hok x hx).kb) W H)
  have HN := Lib.hid hn; have HOK := Lib.hid hok; have HLEN := Lib.hid hlen
  have hmm := @run_makeMap Try.prog
  clear hL hn hok hs hlen
  go_enter Try.func10, Try.ntmps10
  go_upto_region 4 with (go_at_call 19; refine HOW.out.mono ?_; rintro e w1 ⟨A1, cap1, rfl, ho1, hc1, hc2, hc3, hb1⟩; have HO1 := Lib.hid ho1; have HB1 := Lib.hid hb1; have HC3 := Lib.hid hc3; clear ho1 hb1 hc3)
  have HL1 : Hid (Led S w1 g l0 A nA capA mv M) := Lib.hid (HL.out.same (fun k hS => HB1.out.block k (HL.out.lt k hS)) HB1.out.size)
  have hch := changed_any g mv M l0 A1 n cap1 more HN.out (by have := HLEN.out; omega) (by have := HLEN.out; omega) HL.out.val HL.out.ok HOK.out w1 (Lib.hid HO1.out.at') (HL1.out.lt g HL1.out.sg) (cell_of_row w1 g 1 _ _ _ HL1.out.row) HL1.out.map (fun b e => HL1.out.lt b (HL1.out.sm b e))
  rcases hacc : accB l0 more with _ | _
  · have HCH : Hid (Calls Try.prog 20 #[.pointer (some ⟨g, 0, none⟩), .slice A1 n cap1] w1 fun e w' => e = .returned (.tuple #[.map none, .bool false]) ∧ Below w1.heap.size w1 w') := Lib.hid (hch.mono (by
      rintro e w' ⟨hb, ⟨rfl, -⟩ | ⟨b, m, G, -, h, -⟩⟩
      · exact ⟨rfl, hb⟩
      · rw [hacc] at h; cases h))
    clear hch
    have HAC := Lib.hid hacc
    clear hacc hmm
    go_wp2_with (go_at_call 20; refine HCH.out.mono ?_; rintro e w2 ⟨rfl, hb2⟩; have HB2 := Lib.hid hb2; clear hb2)
    go_ret
    exact ⟨Kept.of_below (bto HB1.out HB2.out), .inl ⟨rfl, HAC.out, _, _, _, _, _, HL1.out.same (fun k hS => HB2.out.block k (HL1.out.lt k hS)) HB2.out.size⟩⟩
  · have HCH : Hid (Calls Try.prog 20 #[.pointer (some ⟨g, 0, none⟩), .slice A1 n cap1] w1 fun e w' => ∃ (b m : Nat) (G : Pl → Option Pn), e = .returned (.tuple #[.map (some b), .bool true]) ∧ w1.heap.size ≤ b ∧ m ≤ more.length ∧ MapOf w' b m G ∧ ov (lastF l0) G = lastF (l0 ++ more) ∧ Below w1.heap.size w1 w') := Lib.hid (hch.mono (by
      rintro e w' ⟨hb, ⟨rfl, h⟩ | ⟨b, m, G, rfl, h, h1, h2, h3, h4⟩⟩
      · rw [hacc] at h; cases h
      · exact ⟨b, m, G, rfl, h1, h2, h3, h4, hb⟩))
    clear hch
    have HAC := Lib.hid hacc
    clear hacc
    go_upto_region 5 with (go_at_call 20; refine HCH.out.mono ?_; rintro e w2 ⟨b, m, G, rfl, hbb, hml, hmo, hov, hb2⟩; have HB2 := Lib.hid hb2; have HBB := Lib.hid hbb; have HML := Lib.hid hml; have HMO := Lib.hid hmo; have HOV := Lib.hid hov; clear hb2 hbb hml hmo hov)
    have HL2 : Hid (Led S w2 g l0 A nA capA mv M) := Lib.hid (HL1.out.same (fun k hS => HB2.out.block k (HL1.out.lt k hS)) HB2.out.size)
    have HO2 : Hid (OwnCh w2 W.heap.size A1 n cap1 more) := Lib.hid (HO1.out.below HB2.out (fun g' off e => (HO1.out.lt g' off e).1))
    have HK2 : Hid (Kept S W w2) := Lib.hid (Kept.of_below (bto HB1.out HB2.out))
    have hrow := HL2.out.row
    have hg2 := HL2.out.lt g HL2.out.sg
    have HG2 := Lib.hid hg2
    rcases HL2.out.map with ⟨rfl, hF⟩ | ⟨b0, rfl, hm0⟩
    · have HF := Lib.hid hF
      have hc0 : w2.cell? ⟨g, 1, none⟩ = some (.map none) := cell_of_row w2 g 1 _ _ _ hrow
      have hf0 : w2.frozen? ⟨g, 1, none⟩ = false := by simp [World.frozen?, hrow]
      have heq : ∀ w, (binOp .eql 25 (.map none) (.map none)).run Try.prog w = .ok (.bool true) w := fun w => by kernel_rfl
      have HROW := Lib.hid hrow
      clear hrow hF
      go_upto_region 9 with fail
      obtain ⟨w3, hw3⟩ : ∃ w3, w3 = (w2.setCell ⟨g, 1, none⟩ (.map (some w2.heap.size))).alloc (.map #[] 0) := ⟨_, rfl⟩
      rw [← hw3]
      have hsz : (w2.setCell ⟨g, 1, none⟩ (.map (some w2.heap.size))).heap.size = w2.heap.size := by simp [World.setCell]
      have HPRE : Hid (Pre S W g l0 more A nA capA A1 n cap1 w2.heap.size 0 b m G w3) := Lib.hid (by
        rw [hw3]
        refine ⟨row_alloc' (heap_setCell_same w2 g 1 _ _ _ HROW.out) _, ?_, ?_, ?_, ?_, ?_, ?_, .inr (bto HB1.out HB2.out).size, Nat.zero_le _, HML.out⟩
        · exact (HL2.out.own.same (fun g' off e => Below.heap_setCell _ _ _ _ (HL2.out.own.addr (HL2.out.own.notRow HROW.out) g' off e))).below ((Below.refl _ _).alloc (Nat.le_refl _) _) (fun g' off e => by rw [hsz]; exact (HL2.out.own.lt g' off e).1)
        · exact (HO2.out.same (fun g' off e => Below.heap_setCell _ _ _ _ (HO2.out.addr (HO2.out.notRow HROW.out) g' off e))).below ((Below.refl _ _).alloc (Nat.le_refl _) _) (fun g' off e => by rw [hsz]; exact (HO2.out.lt g' off e).1)
        · have h := MapOf.made (w2.setCell ⟨g, 1, none⟩ (.map (some w2.heap.size)))
          rw [hsz] at h; rw [HF.out]; exact h
        · exact (HMO.out.same (w' := w2.setCell ⟨g, 1, none⟩ (.map (some w2.heap.size))) (Below.heap_setCell _ _ _ _ (Ne.symm (row_notMap HROW.out HMO.out)))).kept (World.grownBy_alloc _ _ none) (by simp)
        · have := HMO.out.lt; omega
        · exact (HK2.out.setCell ⟨g, 1, none⟩ _ (.inl HL.out.sg)).alloc _)
      clear hw3 hc0 hf0 hsz
      have HCP := Lib.hid (copy_any w2.heap.size b 0 m (lastF l0) G HPRE.out.ne (by have := HPRE.out.ml; have := HPRE.out.mm; have := HLEN.out; have := HN.out; omega) w3 (Lib.hid HPRE.out.mp) (Lib.hid HPRE.out.mg))
      have hc31 : w3.cell? ⟨g, 1, none⟩ = some (.map (some w2.heap.size)) := cell_of_row w3 g 1 _ _ _ HPRE.out.row
      go_upto_region 10 with (go_at_call 21; refine HCP.out.mono ?_; rintro e w4 ⟨rfl, hm4, hk4⟩; have HA4 := Lib.hid (HPRE.out.aft hm4 hk4 HOV.out); clear hm4 hk4)
      have hc40 : w4.cell? ⟨g, 0, none⟩ = some (.slice A nA capA) := cell_of_row w4 g 0 _ _ _ HA4.out.row
      have HNA : Hid (nA = l0.length) := Lib.hid HA4.out.own.len
      go_wp2_with (at_builtin; refine wpList_append_ch rfl _ _ rfl 0 A nA capA l0 rfl HA4.out.own A1 n cap1 more rfl HN.out HA4.out.o1.at' HC3.out (nA + n) rfl (by have := HLEN.out; have := HNA.out; omega) (Nat.zero_le _) ?_; intro A5 c5 w5 ho5 hc5 hm5 hn5 hb5 hg5 ha5; have HF5 := Lib.hid (HA4.out.fin HL.out.sA ho5 hc5 hm5 hn5 hg5 ha5); have hc50 : w5.cell? ⟨g, 0, none⟩ = some (.slice A nA capA) := cell_of_row w5 g 0 _ _ _ HF5.out.row; have hf50 : w5.frozen? ⟨g, 0, none⟩ = false := (by have h := HF5.out.row; simp [World.frozen?, h]); clear ho5 hc5 hm5 hn5 hb5 hg5 ha5)
      go_ret
      have h9 := HF5.out.led HL.out.sg HL.out.lt (HL.out.val.more HAC.out) (fun c hc => by
        rcases List.mem_append.1 hc with h | h
        · exact HL.out.ok c h
        · exact HOK.out c h)
      exact ⟨h9.1, .inr ⟨rfl, HAC.out, h9.2⟩⟩
    · have hc0 : w2.cell? ⟨g, 1, none⟩ = some (.map (some b0)) := cell_of_row w2 g 1 _ _ _ hrow
      have heq : ∀ w, (binOp .eql 25 (.map (some b0)) (.map none)).run Try.prog w = .ok (.bool false) w := fun w => by kernel_rfl
      have HROW := Lib.hid hrow
      have HM0 := Lib.hid hm0
      clear hrow hm0
      go_upto_region 9 with fail
      obtain ⟨w3, hw3⟩ : ∃ w3, w3 = w2 := ⟨_, rfl⟩
      rw [← hw3]
      have HPRE : Hid (Pre S W g l0 more A nA capA A1 n cap1 b0 M b m G w3) := Lib.hid (by
        rw [hw3]
        exact ⟨HROW.out, HL2.out.own, HO2.out, HM0.out, HMO.out, (by have h1 := HL1.out.lt b0 (HL1.out.sm b0 rfl); have := HBB.out; omega), HK2.out, .inl (HL.out.sm b0 rfl), HL.out.ml, HML.out⟩)
      clear hw3 hc0
      have HCP := Lib.hid (copy_any b0 b M m (lastF l0) G HPRE.out.ne (by have := HPRE.out.ml; have := HPRE.out.mm; have := HLEN.out; have := HN.out; omega) w3 (Lib.hid HPRE.out.mp) (Lib.hid HPRE.out.mg))
      have hc31 : w3.cell? ⟨g, 1, none⟩ = some (.map (some b0)) := cell_of_row w3 g 1 _ _ _ HPRE.out.row
      go_upto_region 10 with (go_at_call 21; refine HCP.out.mono ?_; rintro e w4 ⟨rfl, hm4, hk4⟩; have HA4 := Lib.hid (HPRE.out.aft hm4 hk4 HOV.out); clear hm4 hk4)
      have hc40 : w4.cell? ⟨g, 0, none⟩ = some (.slice A nA capA) := cell_of_row w4 g 0 _ _ _ HA4.out.row
      have HNA : Hid (nA = l0.length) := Lib.hid HA4.out.own.len
      go_wp2_with (at_builtin; refine wpList_append_ch rfl _ _ rfl 0 A nA capA l0 rfl HA4.out.own A1 n cap1 more rfl HN.out HA4.out.o1.at' HC3.out (nA + n) rfl (by have := HLEN.out; have := HNA.out; omega) (Nat.zero_le _) ?_; intro A5 c5 w5 ho5 hc5 hm5 hn5 hb5 hg5 ha5; have HF5 := Lib.hid (HA4.out.fin HL.out.sA ho5 hc5 hm5 hn5 hg5 ha5); have hc50 : w5.cell? ⟨g, 0, none⟩ = some (.slice A nA capA) := cell_of_row w5 g 0 _ _ _ HF5.out.row; have hf50 : w5.frozen? ⟨g, 0, none⟩ = false := (by have h := HF5.out.row; simp [World.frozen?, h]); clear ho5 hc5 hm5 hn5 hb5 hg5 ha5)
      go_ret
      have h9 := HF5.out.led HL.out.sg HL.out.lt (HL.out.val.more HAC.out) (fun c hc => by
        rcases List.mem_append.1 hc with h | h
        · exact HL.out.ok c h
        · exact HOK.out c h)
      exact ⟨h9.1, .inr ⟨rfl, HAC.out, h9.2⟩⟩
end Go.Proofs.Ytkhldnihboklaaa
