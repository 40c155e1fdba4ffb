/-
  Layer event: Read of a page of events that was laid.
-/
import Derived.Test.YtpobfgokikfmbaaDoorQPrds10
import Derived.Test.YtpobfgokikfmbaaDoorQPrds1
import Derived.Test.YtpobfgokikfmbaaDoorQPrds12
import Derived.Test.YtpobfgokikfmbaaDoorQPrds11
import Derived.Test.YtpobfgokikfmbaaDoorQPrds7
set_option linter.unusedSimpArgs false
set_option linter.unusedVariables false
set_option maxRecDepth 8000
namespace Go.Proofs.YtpobfgokikfmbaaDoor
open Go.RowKit Go.Sort Go.WideShapes Col
theorem evY_le (l : List Ev) (hf : ∀ x ∈ l, FineE x) (hn : l.length ≤ 60) : (evY l).length ≤ 8702 := by
  have z1 := txL_le _ 1223 (by omega) (ints_60 (l.map oI) (oI_wf hf) (by rw [List.length_map]; omega))
  have z2 := txL_le _ 1223 (by omega) (ints_60 (l.map Ev.part) (part_wf hf) (by rw [List.length_map]; omega))
  have z3 := txL_le _ 1223 (by omega) (ints_60 (l.map Ev.time) (time_wf hf) (by rw [List.length_map]; omega))
  have z4 := txL_le _ 3760 (by omega) (texts_60 (l.map kL) (fun y hy => (kL_all hf y hy).1) (fun y hy => (kL_all hf y hy).2) (by rw [List.length_map]; omega))
  have z5 := txL_le _ 1223 (by omega) (ints_60 ((l.map Ev.val).map rwI) (fun y hy => by obtain ⟨u, -, rfl⟩ := List.mem_map.1 hy; exact rwI_wf u) (by rw [List.length_map, List.length_map]; omega))
  unfold evY
  rw [List.length_append, List.length_append, List.length_append, List.length_append]
  omega
theorem readEv_any (g : Nat) (l : List Ev) (hn6 : l.length ≤ 60) (hfin : Hid (∀ x ∈ l, FineE x)) (hw : ∀ x ∈ evY l, x < 256) (p : Int) (w : World) (H : Hid (Rd w g (evY l))) :
    Calls Tryd.prog 12 #[.pointer (some ⟨g, 0, none⟩), .int .i64 p] w (EvEnds g l p w) := by
  have hf := hfin.out
  have hle := evY_le l hf hn6
  have he := evY_assoc l
  have hl := congrArg List.length he
  simp only [List.length_append, List.length_nil] at hl
  have hsub : ∀ x ∈ txL (intsL (l.map oI)) ++ (txL (intsL (l.map Ev.part)) ++ (txL (intsL (l.map Ev.time)) ++ (txL (textsL (l.map kL)) ++ (txL (intsL ((l.map Ev.val).map rwI)) ++ [])))), x < 256 := by rw [← he]; exact hw
  have tl : ∀ D : List Nat, D.length ≤ (txL D).length := fun D => by unfold txL; rw [List.length_append]; omega
  have tm : ∀ (D : List Nat) (x : Nat), x ∈ D → x ∈ txL D := fun D x hx => by unfold txL; exact List.mem_append.2 (.inr hx)
  have d1 := tl (intsL (l.map oI)); have d2 := tl (intsL (l.map Ev.part)); have d3 := tl (intsL (l.map Ev.time)); have d4 := tl (textsL (l.map kL)); have d5 := tl (intsL ((l.map Ev.val).map rwI))
  have h0 := H.out
  rw [he] at h0
  refine readEv_core g l l.length (Lib.hid rfl) hn6 hfin p (txL (intsL (l.map oI))) [] [] [] [] (txL (intsL (l.map Ev.part)) ++ (txL (intsL (l.map Ev.time)) ++ (txL (textsL (l.map kL)) ++ (txL (intsL ((l.map Ev.val).map rwI)) ++ [])))) (txL (intsL (l.map Ev.time)) ++ (txL (textsL (l.map kL)) ++ (txL (intsL ((l.map Ev.val).map rwI)) ++ []))) (txL (textsL (l.map kL)) ++ (txL (intsL ((l.map Ev.val).map rwI)) ++ [])) (txL (intsL ((l.map Ev.val).map rwI)) ++ []) w (Lib.hid h0)
    (Lib.hid fun w' h => rcol_int64 _ (intsL (l.map oI)) (fun x hx => hsub x (List.mem_append.2 (.inl (tm _ x hx)))) (by omega) (Lib.hid fun A C w h1 h2 h3 => readI_yes (l.map oI) (oI_wf hf) (by rw [List.length_map]; exact hn6) A C w h1 h2 h3) g _ (by simp only [List.length_append, List.length_nil]; omega) w' (Lib.hid h))
    (Lib.hid fun w' h => rcol_int64 _ (intsL (l.map Ev.part)) (fun x hx => hsub x (List.mem_append.2 (.inr (List.mem_append.2 (.inl (tm _ x hx)))))) (by omega) (Lib.hid fun A C w h1 h2 h3 => readI_yes (l.map Ev.part) (part_wf hf) (by rw [List.length_map]; exact hn6) A C w h1 h2 h3) g _ (by simp only [List.length_append, List.length_nil]; omega) w' (Lib.hid h))
    (Lib.hid fun w' h => rcol_int64 _ (intsL (l.map Ev.time)) (fun x hx => hsub x (List.mem_append.2 (.inr (List.mem_append.2 (.inr (List.mem_append.2 (.inl (tm _ x hx)))))))) (by omega) (Lib.hid fun A C w h1 h2 h3 => readI_yes (l.map Ev.time) (time_wf hf) (by rw [List.length_map]; exact hn6) A C w h1 h2 h3) g _ (by simp only [List.length_append, List.length_nil]; omega) w' (Lib.hid h))
    (Lib.hid fun w' h => rcol_string _ (textsL (l.map kL)) (fun x hx => hsub x (List.mem_append.2 (.inr (List.mem_append.2 (.inr (List.mem_append.2 (.inr (List.mem_append.2 (.inl (tm _ x hx)))))))))) (by omega) (Lib.hid fun A C w h1 h2 h3 => readT_yes (l.map kL) (fun y hy => (kL_all hf y hy).1) (fun y hy => (kL_all hf y hy).2) (by rw [List.length_map]; exact hn6) A C w h1 h2 h3) g _ (by simp only [List.length_append, List.length_nil]; omega) w' (Lib.hid h))
    (Lib.hid fun w' h => rcol_float64 _ (intsL ((l.map Ev.val).map rwI)) (fun x hx => hsub x (List.mem_append.2 (.inr (List.mem_append.2 (.inr (List.mem_append.2 (.inr (List.mem_append.2 (.inr (List.mem_append.2 (.inl (tm _ x hx)))))))))))) (by omega) (Lib.hid fun A C w h1 h2 h3 => readF_yes (l.map Ev.val) (val_lt hf) (by rw [List.length_map]; exact hn6) A C w h1 h2 h3) g _ (by simp only [List.length_append, List.length_nil]; omega) w' (Lib.hid h))
theorem Rd.keptLowY {w w' : World} {g bl : Nat} (h : Rd w g []) (hk : Kept (fun k => k = bl) w w') (hg : bl < g) (_ : bl = g → False) : Rd w' g [] := by
  obtain ⟨A, C, h⟩ := h
  exact ⟨A, C, h.keep hk (fun e => by have e : g = bl := e; omega) (fun a ha h0 e => by simp at h0)⟩
theorem EvAt.keptY {S : Nat → Prop} {w w' : World} {a : Option Addr} {l : List Ev} (h : EvAt w a l) (hk : Kept S w w') (ho : ∀ b, a = some b → ¬ S b.block) : EvAt w' a l := fun j v hv => by
  obtain ⟨g, off, h2, h3, h4⟩ := h j v hv
  exact ⟨g, off, h2, Nat.lt_of_lt_of_le h3 hk.size, (hk.cell (p := ⟨g, off + j, none⟩) h3 (fun e => ho ⟨g, off, none⟩ h2 e)).trans h4⟩
/-- Where the events that were read lie. -/
def RER (l : List Ev) (p : Int) (bl : Nat) (X : Nat → Prop) (b : Bool) (w : World) : Prop :=
  ((∀ x ∈ l, formB x p = true) ∧ b = true ∧ ∃ L n, w.heap[bl]? = some (.cells #[.slice (some ⟨L, 0, none⟩) n n] 24 (0, 0)) ∧ n = l.length ∧ EvAt w (some ⟨L, 0, none⟩) (l.map canE) ∧ ¬ X L) ∨
  ((∃ x ∈ l, formB x p = false) ∧ b = false)
set_option maxHeartbeats 2000000 in
theorem evFn_any (g bp bl : Nat) (l : List Ev) (hn6 : l.length ≤ 60) (hfin : Hid (∀ x ∈ l, FineE x)) (hw : ∀ x ∈ evY l, x < 256) (p : Int) (w : World) (hbp : bp < g) (hbl : bl < g) (hne : bp ≠ bl)
    (HP : Hid (w.heap[bp]? = some (.cells #[.int .i64 p] 3 (0, 0)))) (HL : Hid (w.heap[bl]? = some (.cells #[.slice none 0 0] 24 (0, 0)))) (H : Hid (Rd w g (evY l))) :
    Calls Tryd.prog 11 #[.pointer (some ⟨g, 0, none⟩), .pointer (some ⟨bp, 0, none⟩), .pointer (some ⟨bl, 0, none⟩)] w (Tried g (fun k => k = bl) (RER l p bl (fun k => k = g)) w) := by
  have HRE := Lib.hid (readEv_any g l hn6 hfin hw p w H)
  have cp : w.cell? ⟨bp, 0, none⟩ = some (.int .i64 p) := by rw [cell_of_row _ _ _ _ _ _ HP.out]; rfl
  have hbw : bl < w.heap.size := (Array.getElem?_eq_some_iff.1 HL.out).1
  have hgw : g < w.heap.size := by obtain ⟨A, C, h⟩ := H.out; exact h.lt
  by_cases hall : ∀ x ∈ l, formB x p = true
  · have HRY : Hid (Calls Tryd.prog 12 #[.pointer (some ⟨g, 0, none⟩), .int .i64 p] w fun e w' => ∃ L n, e = .returned (.slice (some ⟨L, 0, none⟩) n n) ∧ n = l.length ∧ EvAt w' (some ⟨L, 0, none⟩) (l.map canE) ∧ Rd w' g [] ∧ Kept (Only g) w w' ∧ w.heap.size ≤ L) := Lib.hid (HRE.out.mono fun e w' h => by
      rcases h with ⟨-, h⟩ | ⟨⟨x, hx, hfx⟩, -⟩
      · exact h
      · rw [hall x hx] at hfx; cases hfx)
    clear HRE
    go_enter Tryd.func11, Tryd.ntmps11
    go_wp2_with (go_at_call 12; (with_reducible refine (HRY.out).mono ?_); rintro e w1 ⟨L, n, rfl, h1, h2, h3, h4, h5⟩; have HN := Lib.hid h1; have HE := Lib.hid h2; have HR := Lib.hid h3; have HK := Lib.hid h4; have HLL := Lib.hid h5; have HL1 := Lib.hid (h4.heap HL.out (fun e => by have e : bl = g := e; omega)); have cl : w1.cell? ⟨bl, 0, none⟩ = some (.slice none 0 0) := (by rw [cell_of_row _ _ _ _ _ _ HL1.out]; rfl); have fl := row_frozen HL1.out 0; clear h1 h2 h3 h4 h5)
    have hkc : Kept (fun k => k = bl) w1 (w1.setCell ⟨bl, 0, none⟩ (.slice (some ⟨L, 0, none⟩) n n)) := (Kept.refl _ _).setCell _ _ (.inl rfl)
    refine bodyPost_ret (results_none rfl _ _ _) rfl ⟨?_, .inl ⟨[], rfl, ?_, ?_⟩⟩
    · exact (HK.out.mono (S' := fun k => k = bl ∨ k = g) (fun k h => .inl (.inr h))).trans' hkc (fun i hi => .inl (.inl hi))
    · exact HR.out.keptLowY hkc (by omega) (fun e => by omega)
    · refine .inl ⟨hall, rfl, L, n, ?_, HN.out, HE.out.keptY hkc (fun b hb => by injection hb with hb; subst hb; intro e; have e : L = bl := e; have := HLL.out; omega), fun e => by have e : L = g := e; have := HLL.out; omega⟩
      rw [World.setCell]
      simp [Array.getElem?_modify, HL1.out]
  · have hbad : ∃ x ∈ l, formB x p = false := by
      rcases Classical.not_forall.1 hall with ⟨x, hx⟩
      rw [Classical.not_imp] at hx
      exact ⟨x, hx.1, by simpa using hx.2⟩
    have HRN : Hid (Calls Tryd.prog 12 #[.pointer (some ⟨g, 0, none⟩), .int .i64 p] w fun e w' => e = .panicked [gu g] ∧ Gone w' g ∧ Kept (Only g) w w') := Lib.hid (HRE.out.mono fun e w' h => by
      rcases h with ⟨h, -⟩ | ⟨-, h⟩
      · exact absurd h hall
      · exact h)
    clear HRE
    go_enter Tryd.func11, Tryd.ntmps11
    go_wp2_with (go_at_call 12; (with_reducible refine (HRN.out).mono ?_); rintro e w1 ⟨rfl, h1, h2⟩)
    exact ⟨rfl, h2.mono (fun k h => .inl (.inr h)), .inr ⟨rfl, h1, .inr ⟨hbad, rfl⟩⟩⟩
end Go.Proofs.YtpobfgokikfmbaaDoor

set_option linter.unusedSimpArgs false
set_option linter.unusedVariables false
set_option maxRecDepth 8000
namespace Go.Proofs.YtpobfgokikfmbaaDoor
open Go.RowKit Go.Sort Go.WideShapes Col
theorem results_tmp3Y {fn : Func} {t u v : Tmp} (h : fn.results = #[.tmp t, .tmp u, .tmp v]) (tmps : Array Value) (P : Program) (w : World) :
    (results fn tmps).run P w = .ok (.tuple #[tmps.getD t undef, tmps.getD u undef, tmps.getD v undef]) w := by simp [results, h]
theorem alloc_newY (w : World) (o : Obj) : (w.alloc o).heap[w.heap.size]? = some o := heap_alloc_new' w o
theorem rer_yes {l : List Ev} {p : Int} {bl : Nat} {X : Nat → Prop} {b : Bool} {w : World} (hall : ∀ x ∈ l, formB x p = true) (h : RER l p bl X b w) : b = true ∧ ∃ L, w.heap[bl]? = some (.cells #[.slice (some ⟨L, 0, none⟩) l.length l.length] 24 (0, 0)) ∧ EvAt w (some ⟨L, 0, none⟩) (l.map canE) := by
  rcases h with ⟨-, h, L, n, h1, h2, h3, -⟩ | ⟨⟨x, hx, hfx⟩, -⟩
  · exact ⟨h, L, h2 ▸ h1, h3⟩
  · rw [hall x hx] at hfx; cases hfx
theorem rer_no {l : List Ev} {p : Int} {bl : Nat} {X : Nat → Prop} {b : Bool} {w : World} (hbad : ∃ x ∈ l, formB x p = false) (h : RER l p bl X b w) : b = false := by
  rcases h with ⟨h, -⟩ | ⟨-, h⟩
  · obtain ⟨x, hx, hfx⟩ := hbad
    rw [h x hx] at hfx; cases hfx
  · exact h
theorem rer_keep {l : List Ev} {p : Int} {bl g : Nat} {b : Bool} {w w' : World} (h : RER l p bl (fun k => k = g) b w) (hk : Kept (Only g) w w') (hg : bl < g) : RER l p bl (fun _ => False) b w' := by
  rcases h with ⟨h1, h2, L, n, h3, h4, h5, h6⟩ | h
  · exact .inl ⟨h1, h2, L, n, hk.heap h3 (fun e => by have e : bl = g := e; omega), h4, h5.keptY hk (fun b hb => by injection hb with hb; subst hb; exact h6), fun h => h⟩
  · exact .inr h
set_option maxHeartbeats 8000000 in
theorem evRead_yes (A : Option Addr) (N cap np : Nat) (q : List Nat) (l : List Ev) (p : Int) (hn6 : l.length ≤ 60) (hfin : Hid (∀ x ∈ l, FineE x)) (hall : ∀ x ∈ l, formB x p = true) (hq : Hid (np = q.length)) (hw : ∀ x ∈ evY l, x < 256) (hN : Hid (N = (q ++ Pg.lay 101 (evY l)).length)) (hc : N ≤ cap) (hcm : cap ≤ maxLen) (w : World) (HA : Hid (ByAt w A (q ++ Pg.lay 101 (evY l)))) (HG : Hid (HalvesAt w)) :
    Calls Tryd.prog 5 #[.slice A N cap, .int .i64 (np : Int), .int .i64 p] w fun e w' => ∃ L, e = .returned (.tuple #[.slice (some ⟨L, 0, none⟩) l.length l.length, .int .i64 ((np : Int) + 5 + ((evY l).length : Int) + 4), .int .i64 0]) ∧ EvAt w' (some ⟨L, 0, none⟩) (l.map canE) ∧ Below w.heap.size w w' := by
  have hle := evY_le l hfin.out hn6
  obtain ⟨m, hm⟩ : ∃ m, m = (evY l).length := ⟨_, rfl⟩
  obtain ⟨f1, f2, f3, f4⟩ := page_facts q np m 101 (evY l) hq.out hm (by decide) hw (by omega)
  obtain ⟨E, hE⟩ : ∃ E : Int, E = (np : Int) + 5 + (m : Int) + 4 := ⟨_, rfl⟩
  have HPR : Hid (∀ w1, Below w.heap.size w w1 → Calls Tryd.prog 9 #[.slice A N cap, .int .i64 (np : Int)] w1 fun e w' => ∃ A6 C6, e = .returned (.tuple #[.int .u8 101, .slice A6 m C6, .int .i64 E, .int .i64 0]) ∧ ByAt w' A6 (evY l) ∧ m ≤ C6 ∧ C6 ≤ maxLen ∧ Below w1.heap.size w1 w') := Lib.hid fun w1 hb => by
    refine (read_any A _ N cap np hN hc hcm w1 (Lib.hid (HA.out.keep hb)) (Lib.hid (HG.out.keep hb))).mono fun e w' h => ?_
    obtain ⟨A6, C6, he, h1, h2, h3, h4⟩ := h
    rw [f3] at h1 h2 he
    rw [f1, f2, f4, ← hm, ← hE] at he
    exact ⟨A6, C6, he, h1, by omega, h3, h4⟩
  rw [← hm, ← hE]
  obtain ⟨w0, hw0⟩ : ∃ w0, w0 = w.alloc (.cells #[.int .i64 p] 3) := ⟨_, rfl⟩
  obtain ⟨bp, hbp⟩ : ∃ bp, bp = w.heap.size := ⟨_, rfl⟩
  have HB0 : Hid (Below w.heap.size w w0) := Lib.hid (by rw [hw0]; exact (Below.refl _ _).alloc (Nat.le_refl _) _)
  have HP0 : Hid (w0.heap[bp]? = some (.cells #[.int .i64 p] 3 (0, 0))) := Lib.hid (by rw [hw0, hbp]; exact alloc_newY w _)
  have HW0 := Lib.hid hw0; have HBP := Lib.hid hbp; have HM := Lib.hid hm
  clear f1 f2 f3 f4 hE hw0 hbp hm hle
  go_enter Tryd.func5, Tryd.ntmps5
  go_upto_region 1 with fail
  rw [← HW0.out, ← HBP.out]
  go_upto_region 5 with (go_at_call 9; (with_reducible refine (HPR.out w0 HB0.out).mono ?_); rintro e w1 ⟨A6, C6, rfl, h1, h2, h3, h4⟩; have HBY := Lib.hid h1; have hC6 := h2; have hM6 := h3; have HB1 := Lib.hid (below_to HB0.out h4); have HP1 : Hid (w1.heap[bp]? = some (.cells #[.int .i64 p] 3 (0, 0))) := Lib.hid ((h4.block bp (Array.getElem?_eq_some_iff.1 HP0.out).1).trans HP0.out); clear h1 h2 h3 h4)
  obtain ⟨w2, hw2⟩ : ∃ w2, w2 = w1.alloc (.cells #[.slice none 0 0] 24) := ⟨_, rfl⟩
  obtain ⟨bl, hbl⟩ : ∃ bl, bl = w1.heap.size := ⟨_, rfl⟩
  have hb2 : Below w1.heap.size w1 w2 := by rw [hw2]; exact (Below.refl _ _).alloc (Nat.le_refl _) _
  have HBW := Lib.hid (below_to HB1.out hb2)
  have HL2 : Hid (w2.heap[bl]? = some (.cells #[.slice none 0 0] 24 (0, 0))) := Lib.hid (by rw [hw2, hbl]; exact alloc_newY w1 _)
  have hbpl : bp < bl := by rw [hbl]; exact (Array.getElem?_eq_some_iff.1 HP1.out).1
  have HP2 : Hid (w2.heap[bp]? = some (.cells #[.int .i64 p] 3 (0, 0))) := Lib.hid ((hb2.block bp (by omega)).trans HP1.out)
  have hblw : bl < w2.heap.size := (Array.getElem?_eq_some_iff.1 HL2.out).1
  have HBL : Hid (w.heap.size ≤ bl) := Lib.hid (by rw [hbl]; exact HB1.out.size)
  have ht := try_any 11 #[] #[.pointer (some ⟨bp, 0, none⟩), .pointer (some ⟨bl, 0, none⟩)] A6 C6 (evY l) m HM hC6 hM6 w2 (Lib.hid (HBY.out.keep hb2)) (fun k => k = bl) (fun k hk => by omega)
    (fun g b w' => RER l p bl (fun k => k = g) b w') (fun b w' => RER l p bl (fun _ => False) b w')
    (fun g b v2 v3 hg h hk => rer_keep h hk (by omega))
    (fun g v2 hg hr hb => evFn_any g bp bl l hn6 hfin hw p v2 (by omega) (by omega) (by omega) (Lib.hid ((hb.block bp (by omega)).trans HP2.out)) (Lib.hid ((hb.block bl hblw).trans HL2.out)) (Lib.hid hr))
    (fun _ _ => by first | rfl | kernel_rfl)
  have HT := Lib.hid ht
  have HW2 := Lib.hid hw2; have HBLL := Lib.hid hbl
  have hmf : ∀ (fn : Fn) (first cap : Array Value) (w : World), (Instr.makeFunc fn first cap).run Tryd.prog w = .ok (.func fn first cap) w := fun _ _ _ _ => rfl
  clear ht hw2 hbl hb2 hblw hbpl HPR HB0 HP0 HW0 HBP HBY
  rw [← HW2.out, ← HBLL.out]
  go_wp2_with (go_at_call 10; (with_reducible refine (HT.out).mono ?_); rintro e w8 ⟨b, rfl, hr, hk⟩; have hr2 := rer_yes hall hr; obtain ⟨rfl, L, hrow, hev⟩ := hr2; have HE8 := Lib.hid hev; have HB8 := Lib.hid hk; have cl : w8.cell? ⟨bl, 0, none⟩ = some (.slice (some ⟨L, 0, none⟩) l.length l.length) := (by rw [cell_of_row _ _ _ _ _ _ hrow]; rfl); clear hr hrow hev hk)
  refine bodyPost_ret (results_tmp3Y rfl _ _ _) rfl ?_
  exact ⟨L, rfl, HE8.out, (HBW.out.trans (HB8.out.below HBW.out.size (fun k hk => by have hk : k = bl := hk; have := HBL.out; omega)))⟩
set_option maxHeartbeats 8000000 in
theorem evRead_no (A : Option Addr) (N cap np : Nat) (q : List Nat) (l : List Ev) (p : Int) (hn6 : l.length ≤ 60) (hfin : Hid (∀ x ∈ l, FineE x)) (hbad : ∃ x ∈ l, formB x p = false) (hq : Hid (np = q.length)) (hw : ∀ x ∈ evY l, x < 256) (hN : Hid (N = (q ++ Pg.lay 101 (evY l)).length)) (hc : N ≤ cap) (hcm : cap ≤ maxLen) (w : World) (HA : Hid (ByAt w A (q ++ Pg.lay 101 (evY l)))) (HG : Hid (HalvesAt w)) :
    Calls Tryd.prog 5 #[.slice A N cap, .int .i64 (np : Int), .int .i64 p] w fun e w' => e = .returned (.tuple #[.slice none 0 0, .int .i64 0, .int .i64 3]) ∧ Below w.heap.size w w' := by
  have hle := evY_le l hfin.out hn6
  obtain ⟨m, hm⟩ : ∃ m, m = (evY l).length := ⟨_, rfl⟩
  obtain ⟨f1, f2, f3, f4⟩ := page_facts q np m 101 (evY l) hq.out hm (by decide) hw (by omega)
  obtain ⟨E, hE⟩ : ∃ E : Int, E = (np : Int) + 5 + (m : Int) + 4 := ⟨_, rfl⟩
  have HPR : Hid (∀ w1, Below w.heap.size w w1 → Calls Tryd.prog 9 #[.slice A N cap, .int .i64 (np : Int)] w1 fun e w' => ∃ A6 C6, e = .returned (.tuple #[.int .u8 101, .slice A6 m C6, .int .i64 E, .int .i64 0]) ∧ ByAt w' A6 (evY l) ∧ m ≤ C6 ∧ C6 ≤ maxLen ∧ Below w1.heap.size w1 w') := Lib.hid fun w1 hb => by
    refine (read_any A _ N cap np hN hc hcm w1 (Lib.hid (HA.out.keep hb)) (Lib.hid (HG.out.keep hb))).mono fun e w' h => ?_
    obtain ⟨A6, C6, he, h1, h2, h3, h4⟩ := h
    rw [f3] at h1 h2 he
    rw [f1, f2, f4, ← hm, ← hE] at he
    exact ⟨A6, C6, he, h1, by omega, h3, h4⟩
  skip
  obtain ⟨w0, hw0⟩ : ∃ w0, w0 = w.alloc (.cells #[.int .i64 p] 3) := ⟨_, rfl⟩
  obtain ⟨bp, hbp⟩ : ∃ bp, bp = w.heap.size := ⟨_, rfl⟩
  have HB0 : Hid (Below w.heap.size w w0) := Lib.hid (by rw [hw0]; exact (Below.refl _ _).alloc (Nat.le_refl _) _)
  have HP0 : Hid (w0.heap[bp]? = some (.cells #[.int .i64 p] 3 (0, 0))) := Lib.hid (by rw [hw0, hbp]; exact alloc_newY w _)
  have HW0 := Lib.hid hw0; have HBP := Lib.hid hbp; have HM := Lib.hid hm
  clear f1 f2 f3 f4 hE hw0 hbp hm hle
  go_enter Tryd.func5, Tryd.ntmps5
  go_upto_region 1 with fail
  rw [← HW0.out, ← HBP.out]
  go_upto_region 5 with (go_at_call 9; (with_reducible refine (HPR.out w0 HB0.out).mono ?_); rintro e w1 ⟨A6, C6, rfl, h1, h2, h3, h4⟩; have HBY := Lib.hid h1; have hC6 := h2; have hM6 := h3; have HB1 := Lib.hid (below_to HB0.out h4); have HP1 : Hid (w1.heap[bp]? = some (.cells #[.int .i64 p] 3 (0, 0))) := Lib.hid ((h4.block bp (Array.getElem?_eq_some_iff.1 HP0.out).1).trans HP0.out); clear h1 h2 h3 h4)
  obtain ⟨w2, hw2⟩ : ∃ w2, w2 = w1.alloc (.cells #[.slice none 0 0] 24) := ⟨_, rfl⟩
  obtain ⟨bl, hbl⟩ : ∃ bl, bl = w1.heap.size := ⟨_, rfl⟩
  have hb2 : Below w1.heap.size w1 w2 := by rw [hw2]; exact (Below.refl _ _).alloc (Nat.le_refl _) _
  have HBW := Lib.hid (below_to HB1.out hb2)
  have HL2 : Hid (w2.heap[bl]? = some (.cells #[.slice none 0 0] 24 (0, 0))) := Lib.hid (by rw [hw2, hbl]; exact alloc_newY w1 _)
  have hbpl : bp < bl := by rw [hbl]; exact (Array.getElem?_eq_some_iff.1 HP1.out).1
  have HP2 : Hid (w2.heap[bp]? = some (.cells #[.int .i64 p] 3 (0, 0))) := Lib.hid ((hb2.block bp (by omega)).trans HP1.out)
  have hblw : bl < w2.heap.size := (Array.getElem?_eq_some_iff.1 HL2.out).1
  have HBL : Hid (w.heap.size ≤ bl) := Lib.hid (by rw [hbl]; exact HB1.out.size)
  have ht := try_any 11 #[] #[.pointer (some ⟨bp, 0, none⟩), .pointer (some ⟨bl, 0, none⟩)] A6 C6 (evY l) m HM hC6 hM6 w2 (Lib.hid (HBY.out.keep hb2)) (fun k => k = bl) (fun k hk => by omega)
    (fun g b w' => RER l p bl (fun k => k = g) b w') (fun b w' => RER l p bl (fun _ => False) b w')
    (fun g b v2 v3 hg h hk => rer_keep h hk (by omega))
    (fun g v2 hg hr hb => evFn_any g bp bl l hn6 hfin hw p v2 (by omega) (by omega) (by omega) (Lib.hid ((hb.block bp (by omega)).trans HP2.out)) (Lib.hid ((hb.block bl hblw).trans HL2.out)) (Lib.hid hr))
    (fun _ _ => by first | rfl | kernel_rfl)
  have HT := Lib.hid ht
  have HW2 := Lib.hid hw2; have HBLL := Lib.hid hbl
  have hmf : ∀ (fn : Fn) (first cap : Array Value) (w : World), (Instr.makeFunc fn first cap).run Tryd.prog w = .ok (.func fn first cap) w := fun _ _ _ _ => rfl
  clear ht hw2 hbl hb2 hblw hbpl HPR HB0 HP0 HW0 HBP HBY
  rw [← HW2.out, ← HBLL.out]
  go_wp2_with (go_at_call 10; (with_reducible refine (HT.out).mono ?_); rintro e w8 ⟨b, rfl, hr, hk⟩; obtain rfl := rer_no hbad hr; have HB8 := Lib.hid hk; clear hr hk)
  refine bodyPost_ret (results_tmp3Y rfl _ _ _) rfl ?_
  exact ⟨rfl, (HBW.out.trans (HB8.out.below HBW.out.size (fun k hk => by have hk : k = bl := hk; have := HBL.out; omega)))⟩
end Go.Proofs.YtpobfgokikfmbaaDoor

set_option linter.unusedSimpArgs false
set_option linter.unusedVariables false
set_option maxRecDepth 8000
namespace Go.Proofs.YtpobfgokikfmbaaDoor
open Go.RowKit Go.Sort Go.WideShapes Col
/-- What is read of a body. -/
def RERA (o : Option (List Ev × List Nat)) (bl : Nat) (X : Nat → Prop) (b : Bool) (w : World) : Prop := match o with
  | some p => b = decide (p.2 = []) ∧ ∃ L n, w.heap[bl]? = some (.cells #[.slice (some ⟨L, 0, none⟩) n n] 24 (0, 0)) ∧ n = p.1.length ∧ EvAt w (some ⟨L, 0, none⟩) p.1 ∧ ¬ X L
  | none => b = false
set_option maxHeartbeats 2000000 in
theorem evFnA_any (g bp bl : Nat) (q : List Nat) (hq : q.length ≤ 1000000) (p : Int) (w : World) (hbp : bp < g) (hbl : bl < g) (hne : bp ≠ bl)
    (HP : Hid (w.heap[bp]? = some (.cells #[.int .i64 p] 3 (0, 0)))) (HL : Hid (w.heap[bl]? = some (.cells #[.slice none 0 0] 24 (0, 0)))) (H : Hid (Rd w g q)) (hoff : Hid (∀ (w' : World) (r : List Nat), Rd w' g r → Kept (fun k => k = g) w w' → w'.heap[bl]? = some (.cells #[.slice none 0 0] 24 (0, 0)) → ∀ v, Rd (w'.setCell ⟨bl, 0, none⟩ v) g r)) :
    Calls Tryd.prog 11 #[.pointer (some ⟨g, 0, none⟩), .pointer (some ⟨bp, 0, none⟩), .pointer (some ⟨bl, 0, none⟩)] w (Tried g (fun k => k = bl) (RERA (evR p q) bl (fun k => k = g)) w) := by
  have HRE := Lib.hid (readEvB_any g p q hq w H)
  have cp : w.cell? ⟨bp, 0, none⟩ = some (.int .i64 p) := by rw [cell_of_row _ _ _ _ _ _ HP.out]; rfl
  have hbw : bl < w.heap.size := (Array.getElem?_eq_some_iff.1 HL.out).1
  have hgw : g < w.heap.size := by obtain ⟨A, C, h⟩ := H.out; exact h.lt
  rcases he : evR p q with _ | ⟨l, r⟩
  · rw [he] at HRE
    have HRN : Hid (Calls Tryd.prog 12 #[.pointer (some ⟨g, 0, none⟩), .int .i64 p] w fun e w' => e = .panicked [gu g] ∧ Gone w' g ∧ Kept (Only g) w w') := HRE
    clear HRE he
    go_enter Tryd.func11, Tryd.ntmps11
    go_wp2_with (go_at_call 12; (with_reducible refine (HRN.out).mono ?_); rintro e w1 ⟨rfl, h1, h2⟩)
    exact ⟨rfl, h2.mono (fun k h => .inl (.inr h)), .inr ⟨rfl, h1, rfl⟩⟩
  · rw [he] at HRE
    have HRY : Hid (Calls Tryd.prog 12 #[.pointer (some ⟨g, 0, none⟩), .int .i64 p] w fun e w' => ∃ L n, e = .returned (.slice (some ⟨L, 0, none⟩) n n) ∧ n = l.length ∧ EvAt w' (some ⟨L, 0, none⟩) l ∧ Rd w' g r ∧ Kept (Only g) w w' ∧ w.heap.size ≤ L) := HRE
    clear HRE he
    go_enter Tryd.func11, Tryd.ntmps11
    go_wp2_with (go_at_call 12; (with_reducible refine (HRY.out).mono ?_); rintro e w1 ⟨L, n, rfl, h1, h2, h3, h4, h5⟩; have HN := Lib.hid h1; have HE := Lib.hid h2; have HR := Lib.hid h3; have HK := Lib.hid h4; have HLL := Lib.hid h5; have HL1 := Lib.hid (h4.heap HL.out (fun e => by have e : bl = g := e; omega)); have cl : w1.cell? ⟨bl, 0, none⟩ = some (.slice none 0 0) := (by rw [cell_of_row _ _ _ _ _ _ HL1.out]; rfl); have fl := row_frozen HL1.out 0; clear h1 h2 h3 h4 h5)
    have hkc : Kept (fun k => k = bl) w1 (w1.setCell ⟨bl, 0, none⟩ (.slice (some ⟨L, 0, none⟩) n n)) := (Kept.refl _ _).setCell _ _ (.inl rfl)
    refine bodyPost_ret (results_none rfl _ _ _) rfl ⟨?_, .inl ⟨r, rfl, hoff.out _ r HR.out HK.out HL1.out _, ?_⟩⟩
    · exact (HK.out.mono (S' := fun k => k = bl ∨ k = g) (fun k h => .inl (.inr h))).trans' hkc (fun i hi => .inl (.inl hi))
    · refine ⟨rfl, L, n, ?_, HN.out, HE.out.keptY hkc (fun b hb => by injection hb with hb; subst hb; intro e; have e : L = bl := e; have := HLL.out; omega), fun e => by have e : L = g := e; have := HLL.out; omega⟩
      rw [World.setCell]
      simp [Array.getElem?_modify, HL1.out]
theorem rera_keep {o : Option (List Ev × List Nat)} {bl g : Nat} {b : Bool} {w w' : World} (h : RERA o bl (fun k => k = g) b w) (hk : Kept (Only g) w w') (hg : bl < g) : RERA o bl (fun _ => False) b w' := by
  rcases o with _ | p
  · exact h
  · obtain ⟨h2, L, n, h3, h4, h5, h6⟩ := h
    exact ⟨h2, L, n, hk.heap h3 (fun e => by have e : bl = g := e; omega), h4, h5.keptY hk (fun b hb => by injection hb with hb; subst hb; exact h6), fun h => h⟩
/-- What Read answers: an error's number, or events and the place behind them. -/
def evOut (p : Int) (Q : List Nat) (i : Int) : Nat ⊕ (List Ev × Int) :=
  if Pg.errAt Q i ≠ 0 then .inl (Pg.errAt Q i) else if Pg.kindAt Q i ≠ 101 then .inl 3 else match evR p (Pg.bodyAt Q i) with
    | some (l, []) => .inr (l, Pg.endAt Q i)
    | _ => .inl 3
def EvRet (o : Nat ⊕ (List Ev × Int)) (w : World) (e : Ending) (w' : World) : Prop := match o with
  | .inl c => e = .returned (.tuple #[.slice none 0 0, .int .i64 0, .int .i64 (c : Int)]) ∧ Below w.heap.size w w'
  | .inr p => ∃ L n, e = .returned (.tuple #[.slice (some ⟨L, 0, none⟩) n n, .int .i64 p.2, .int .i64 0]) ∧ n = p.1.length ∧ EvAt w' (some ⟨L, 0, none⟩) p.1 ∧ Below w.heap.size w w'
/-- A reader's bytes lie in no row of slices: to write there leaves the reader as it is. -/
theorem rd_cellY {w : World} {g bl : Nat} {r : List Nat} (h : Rd w g r) (hrow : w.heap[bl]? = some (.cells #[.slice none 0 0] 24 (0, 0))) (hg : bl < g) (v : Value) : Rd (w.setCell ⟨bl, 0, none⟩ v) g r := by
  obtain ⟨A, C, h⟩ := h
  have hk : Kept (fun k => k = bl) w (w.setCell ⟨bl, 0, none⟩ v) := (Kept.refl _ _).setCell _ _ (.inl rfl)
  refine ⟨A, C, h.keep hk (fun e => by have e : g = bl := e; omega) (fun a ha h0 e => ?_)⟩
  have e : a.block = bl := e
  obtain ⟨b, off, h2, h3, hc⟩ := h.bytes.spot h0
  rw [h2] at ha; injection ha with ha; subst ha
  have e : b = bl := e
  subst e
  have hc0 := hc 0 r[0] (List.getElem?_eq_getElem h0)
  rw [cell_of_row _ _ _ _ _ _ hrow] at hc0
  have hj : off + 0 < 1 := (Array.getElem?_eq_some_iff.1 hc0).1
  rw [show off + 0 = 0 by omega] at hc0
  simp at hc0
set_option maxHeartbeats 8000000 in
theorem evReadA_E (A : Option Addr) (N cap : Nat) (i p : Int) (q : List Nat) (m : Nat) (hm : Hid (m = q.length)) (hq : m ≤ 1000000) (E : Int) (kd : Nat) (c : Nat) (hc : ¬ (c : Int) = 0) (w : World)
    (HPR : Hid (∀ w1, Below w.heap.size w w1 → Calls Tryd.prog 9 #[.slice A N cap, .int .i64 i] w1 fun e w' => ∃ A6 C6, e = .returned (.tuple #[.int .u8 (kd : Int), .slice A6 m C6, .int .i64 E, .int .i64 (c : Int)]) ∧ ByAt w' A6 q ∧ m ≤ C6 ∧ C6 ≤ maxLen ∧ Below w1.heap.size w1 w')) :
    Calls Tryd.prog 5 #[.slice A N cap, .int .i64 i, .int .i64 p] w fun e w' => e = .returned (.tuple #[.slice none 0 0, .int .i64 0, .int .i64 (c : Int)]) ∧ Below w.heap.size w w' := by
  obtain ⟨w0, hw0⟩ : ∃ w0, w0 = w.alloc (.cells #[.int .i64 p] 3) := ⟨_, rfl⟩
  obtain ⟨bp, hbp⟩ : ∃ bp, bp = w.heap.size := ⟨_, rfl⟩
  have HB0 : Hid (Below w.heap.size w w0) := Lib.hid (by rw [hw0]; exact (Below.refl _ _).alloc (Nat.le_refl _) _)
  have HP0 : Hid (w0.heap[bp]? = some (.cells #[.int .i64 p] 3 (0, 0))) := Lib.hid (by rw [hw0, hbp]; exact alloc_newY w _)
  have HW0 := Lib.hid hw0; have HBP := Lib.hid hbp
  clear hw0 hbp
  go_enter Tryd.func5, Tryd.ntmps5
  go_upto_region 1 with fail
  rw [← HW0.out, ← HBP.out]
  have hc2 : ((c : Int) != 0) = true := by simpa using hc
  go_wp2_with (go_at_call 9; (with_reducible refine (HPR.out w0 HB0.out).mono ?_); rintro e w1 ⟨A6, C6, rfl, h1, h2, h3, h4⟩; have HBY := Lib.hid h1; have hC6 := h2; have hM6 := h3; have HB1 := Lib.hid (below_to HB0.out h4); have HP1 : Hid (w1.heap[bp]? = some (.cells #[.int .i64 p] 3 (0, 0))) := Lib.hid ((h4.block bp (Array.getElem?_eq_some_iff.1 HP0.out).1).trans HP0.out); clear h1 h2 h3 h4)
  refine bodyPost_ret (results_tmp3Y rfl _ _ _) rfl ?_
  exact ⟨rfl, HB1.out⟩
set_option maxHeartbeats 8000000 in
theorem evReadA_K (A : Option Addr) (N cap : Nat) (i p : Int) (q : List Nat) (m : Nat) (hm : Hid (m = q.length)) (hq : m ≤ 1000000) (E : Int) (kd : Nat) (hkd : ¬ (kd : Int) = 101) (w : World)
    (HPR : Hid (∀ w1, Below w.heap.size w w1 → Calls Tryd.prog 9 #[.slice A N cap, .int .i64 i] w1 fun e w' => ∃ A6 C6, e = .returned (.tuple #[.int .u8 (kd : Int), .slice A6 m C6, .int .i64 E, .int .i64 0]) ∧ ByAt w' A6 q ∧ m ≤ C6 ∧ C6 ≤ maxLen ∧ Below w1.heap.size w1 w')) :
    Calls Tryd.prog 5 #[.slice A N cap, .int .i64 i, .int .i64 p] w fun e w' => e = .returned (.tuple #[.slice none 0 0, .int .i64 0, .int .i64 3]) ∧ Below w.heap.size w w' := by
  obtain ⟨w0, hw0⟩ : ∃ w0, w0 = w.alloc (.cells #[.int .i64 p] 3) := ⟨_, rfl⟩
  obtain ⟨bp, hbp⟩ : ∃ bp, bp = w.heap.size := ⟨_, rfl⟩
  have HB0 : Hid (Below w.heap.size w w0) := Lib.hid (by rw [hw0]; exact (Below.refl _ _).alloc (Nat.le_refl _) _)
  have HP0 : Hid (w0.heap[bp]? = some (.cells #[.int .i64 p] 3 (0, 0))) := Lib.hid (by rw [hw0, hbp]; exact alloc_newY w _)
  have HW0 := Lib.hid hw0; have HBP := Lib.hid hbp
  clear hw0 hbp
  go_enter Tryd.func5, Tryd.ntmps5
  go_upto_region 1 with fail
  rw [← HW0.out, ← HBP.out]
  have hk2 : ((kd : Int) != 101) = true := by simpa using hkd
  go_wp2_with (go_at_call 9; (with_reducible refine (HPR.out w0 HB0.out).mono ?_); rintro e w1 ⟨A6, C6, rfl, h1, h2, h3, h4⟩; have HBY := Lib.hid h1; have hC6 := h2; have hM6 := h3; have HB1 := Lib.hid (below_to HB0.out h4); have HP1 : Hid (w1.heap[bp]? = some (.cells #[.int .i64 p] 3 (0, 0))) := Lib.hid ((h4.block bp (Array.getElem?_eq_some_iff.1 HP0.out).1).trans HP0.out); clear h1 h2 h3 h4)
  refine bodyPost_ret (results_tmp3Y rfl _ _ _) rfl ?_
  exact ⟨rfl, HB1.out.alloc HB1.out.size _⟩
set_option maxHeartbeats 8000000 in
theorem evReadA_B (A : Option Addr) (N cap : Nat) (i p : Int) (q : List Nat) (m : Nat) (hm : Hid (m = q.length)) (hq : m ≤ 1000000) (E : Int) (o : Option (List Ev × List Nat)) (ho : ∀ (b : Bool) (bl : Nat) (X : Nat → Prop) (w : World), RERA o bl X b w → b = false) (hev : evR p q = o) (w : World)
    (HPR : Hid (∀ w1, Below w.heap.size w w1 → Calls Tryd.prog 9 #[.slice A N cap, .int .i64 i] w1 fun e w' => ∃ A6 C6, e = .returned (.tuple #[.int .u8 101, .slice A6 m C6, .int .i64 E, .int .i64 0]) ∧ ByAt w' A6 q ∧ m ≤ C6 ∧ C6 ≤ maxLen ∧ Below w1.heap.size w1 w')) :
    Calls Tryd.prog 5 #[.slice A N cap, .int .i64 i, .int .i64 p] w fun e w' => e = .returned (.tuple #[.slice none 0 0, .int .i64 0, .int .i64 3]) ∧ Below w.heap.size w w' := by
  obtain ⟨w0, hw0⟩ : ∃ w0, w0 = w.alloc (.cells #[.int .i64 p] 3) := ⟨_, rfl⟩
  obtain ⟨bp, hbp⟩ : ∃ bp, bp = w.heap.size := ⟨_, rfl⟩
  have HB0 : Hid (Below w.heap.size w w0) := Lib.hid (by rw [hw0]; exact (Below.refl _ _).alloc (Nat.le_refl _) _)
  have HP0 : Hid (w0.heap[bp]? = some (.cells #[.int .i64 p] 3 (0, 0))) := Lib.hid (by rw [hw0, hbp]; exact alloc_newY w _)
  have HW0 := Lib.hid hw0; have HBP := Lib.hid hbp
  clear hw0 hbp
  go_enter Tryd.func5, Tryd.ntmps5
  go_upto_region 1 with fail
  rw [← HW0.out, ← HBP.out]
  go_upto_region 5 with (go_at_call 9; (with_reducible refine (HPR.out w0 HB0.out).mono ?_); rintro e w1 ⟨A6, C6, rfl, h1, h2, h3, h4⟩; have HBY := Lib.hid h1; have hC6 := h2; have hM6 := h3; have HB1 := Lib.hid (below_to HB0.out h4); have HP1 : Hid (w1.heap[bp]? = some (.cells #[.int .i64 p] 3 (0, 0))) := Lib.hid ((h4.block bp (Array.getElem?_eq_some_iff.1 HP0.out).1).trans HP0.out); clear h1 h2 h3 h4)
  obtain ⟨w2, hw2⟩ : ∃ w2, w2 = w1.alloc (.cells #[.slice none 0 0] 24) := ⟨_, rfl⟩
  obtain ⟨bl, hbl⟩ : ∃ bl, bl = w1.heap.size := ⟨_, rfl⟩
  have hb2 : Below w1.heap.size w1 w2 := by rw [hw2]; exact (Below.refl _ _).alloc (Nat.le_refl _) _
  have HBW := Lib.hid (below_to HB1.out hb2)
  have HL2 : Hid (w2.heap[bl]? = some (.cells #[.slice none 0 0] 24 (0, 0))) := Lib.hid (by rw [hw2, hbl]; exact alloc_newY w1 _)
  have hbpl : bp < bl := by rw [hbl]; exact (Array.getElem?_eq_some_iff.1 HP1.out).1
  have HP2 : Hid (w2.heap[bp]? = some (.cells #[.int .i64 p] 3 (0, 0))) := Lib.hid ((hb2.block bp (by omega)).trans HP1.out)
  have hblw : bl < w2.heap.size := (Array.getElem?_eq_some_iff.1 HL2.out).1
  have HBL : Hid (w.heap.size ≤ bl) := Lib.hid (by rw [hbl]; exact HB1.out.size)
  have ht := try_any 11 #[] #[.pointer (some ⟨bp, 0, none⟩), .pointer (some ⟨bl, 0, none⟩)] A6 C6 q m hm hC6 hM6 w2 (Lib.hid (HBY.out.keep hb2)) (fun k => k = bl) (fun k hk => by omega)
    (fun g b w' => RERA o bl (fun k => k = g) b w') (fun b w' => RERA o bl (fun _ => False) b w')
    (fun g b v2 v3 hg h hk => rera_keep h hk (by omega))
    (fun g v2 hg hr hb => by
      have h := evFnA_any g bp bl q (by rw [← hm.out]; exact hq) p v2 (by omega) (by omega) (by omega) (Lib.hid ((hb.block bp (by omega)).trans HP2.out)) (Lib.hid ((hb.block bl hblw).trans HL2.out)) (Lib.hid hr) (Lib.hid fun w' r hr2 hk2 hrow v => rd_cellY hr2 hrow (by omega) v)
      rw [hev] at h
      exact h)
    (fun _ _ => by first | rfl | kernel_rfl)
  have HT := Lib.hid ht
  have HW2 := Lib.hid hw2; have HBLL := Lib.hid hbl
  have hmf : ∀ (fn : Fn) (first cap : Array Value) (w : World), (Instr.makeFunc fn first cap).run Tryd.prog w = .ok (.func fn first cap) w := fun _ _ _ _ => rfl
  clear ht hw2 hbl hb2 hblw hbpl HPR HB0 HP0 HW0 HBP HBY
  rw [← HW2.out, ← HBLL.out]
  go_wp2_with (go_at_call 10; (with_reducible refine (HT.out).mono ?_); rintro e w8 ⟨b, rfl, hr, hk⟩; obtain rfl := ho _ _ _ _ hr; have HB8 := Lib.hid hk; clear hr hk)
  refine bodyPost_ret (results_tmp3Y rfl _ _ _) rfl ?_
  exact ⟨rfl, (HBW.out.trans (HB8.out.below HBW.out.size (fun k hk => by have hk : k = bl := hk; have := HBL.out; omega)))⟩
set_option maxHeartbeats 8000000 in
theorem evReadA_Y (A : Option Addr) (N cap : Nat) (i p : Int) (q : List Nat) (m : Nat) (hm : Hid (m = q.length)) (hq : m ≤ 1000000) (E : Int) (l : List Ev) (hev : evR p q = some (l, [])) (w : World)
    (HPR : Hid (∀ w1, Below w.heap.size w w1 → Calls Tryd.prog 9 #[.slice A N cap, .int .i64 i] w1 fun e w' => ∃ A6 C6, e = .returned (.tuple #[.int .u8 101, .slice A6 m C6, .int .i64 E, .int .i64 0]) ∧ ByAt w' A6 q ∧ m ≤ C6 ∧ C6 ≤ maxLen ∧ Below w1.heap.size w1 w')) :
    Calls Tryd.prog 5 #[.slice A N cap, .int .i64 i, .int .i64 p] w fun e w' => ∃ L n, e = .returned (.tuple #[.slice (some ⟨L, 0, none⟩) n n, .int .i64 E, .int .i64 0]) ∧ n = l.length ∧ EvAt w' (some ⟨L, 0, none⟩) l ∧ Below w.heap.size w w' := by
  obtain ⟨w0, hw0⟩ : ∃ w0, w0 = w.alloc (.cells #[.int .i64 p] 3) := ⟨_, rfl⟩
  obtain ⟨bp, hbp⟩ : ∃ bp, bp = w.heap.size := ⟨_, rfl⟩
  have HB0 : Hid (Below w.heap.size w w0) := Lib.hid (by rw [hw0]; exact (Below.refl _ _).alloc (Nat.le_refl _) _)
  have HP0 : Hid (w0.heap[bp]? = some (.cells #[.int .i64 p] 3 (0, 0))) := Lib.hid (by rw [hw0, hbp]; exact alloc_newY w _)
  have HW0 := Lib.hid hw0; have HBP := Lib.hid hbp
  clear hw0 hbp
  go_enter Tryd.func5, Tryd.ntmps5
  go_upto_region 1 with fail
  rw [← HW0.out, ← HBP.out]
  go_upto_region 5 with (go_at_call 9; (with_reducible refine (HPR.out w0 HB0.out).mono ?_); rintro e w1 ⟨A6, C6, rfl, h1, h2, h3, h4⟩; have HBY := Lib.hid h1; have hC6 := h2; have hM6 := h3; have HB1 := Lib.hid (below_to HB0.out h4); have HP1 : Hid (w1.heap[bp]? = some (.cells #[.int .i64 p] 3 (0, 0))) := Lib.hid ((h4.block bp (Array.getElem?_eq_some_iff.1 HP0.out).1).trans HP0.out); clear h1 h2 h3 h4)
  obtain ⟨w2, hw2⟩ : ∃ w2, w2 = w1.alloc (.cells #[.slice none 0 0] 24) := ⟨_, rfl⟩
  obtain ⟨bl, hbl⟩ : ∃ bl, bl = w1.heap.size := ⟨_, rfl⟩
  have hb2 : Below w1.heap.size w1 w2 := by rw [hw2]; exact (Below.refl _ _).alloc (Nat.le_refl _) _
  have HBW := Lib.hid (below_to HB1.out hb2)
  have HL2 : Hid (w2.heap[bl]? = some (.cells #[.slice none 0 0] 24 (0, 0))) := Lib.hid (by rw [hw2, hbl]; exact alloc_newY w1 _)
  have hbpl : bp < bl := by rw [hbl]; exact (Array.getElem?_eq_some_iff.1 HP1.out).1
  have HP2 : Hid (w2.heap[bp]? = some (.cells #[.int .i64 p] 3 (0, 0))) := Lib.hid ((hb2.block bp (by omega)).trans HP1.out)
  have hblw : bl < w2.heap.size := (Array.getElem?_eq_some_iff.1 HL2.out).1
  have HBL : Hid (w.heap.size ≤ bl) := Lib.hid (by rw [hbl]; exact HB1.out.size)
  have ht := try_any 11 #[] #[.pointer (some ⟨bp, 0, none⟩), .pointer (some ⟨bl, 0, none⟩)] A6 C6 q m hm hC6 hM6 w2 (Lib.hid (HBY.out.keep hb2)) (fun k => k = bl) (fun k hk => by omega)
    (fun g b w' => RERA (some (l, [])) bl (fun k => k = g) b w') (fun b w' => RERA (some (l, [])) bl (fun _ => False) b w')
    (fun g b v2 v3 hg h hk => rera_keep h hk (by omega))
    (fun g v2 hg hr hb => by
      have h := evFnA_any g bp bl q (by rw [← hm.out]; exact hq) p v2 (by omega) (by omega) (by omega) (Lib.hid ((hb.block bp (by omega)).trans HP2.out)) (Lib.hid ((hb.block bl hblw).trans HL2.out)) (Lib.hid hr) (Lib.hid fun w' r hr2 hk2 hrow v => rd_cellY hr2 hrow (by omega) v)
      rw [hev] at h
      exact h)
    (fun _ _ => by first | rfl | kernel_rfl)
  have HT := Lib.hid ht
  have HW2 := Lib.hid hw2; have HBLL := Lib.hid hbl
  have hmf : ∀ (fn : Fn) (first cap : Array Value) (w : World), (Instr.makeFunc fn first cap).run Tryd.prog w = .ok (.func fn first cap) w := fun _ _ _ _ => rfl
  clear ht hw2 hbl hb2 hblw hbpl HPR HB0 HP0 HW0 HBP HBY
  rw [← HW2.out, ← HBLL.out]
  go_wp2_with (go_at_call 10; (with_reducible refine (HT.out).mono ?_); rintro e w8 ⟨b, rfl, hr, hk⟩; obtain ⟨rfl, L, n, hrow, hnl, hev8, -⟩ : b = true ∧ ∃ L n, w8.heap[bl]? = some (.cells #[.slice (some ⟨L, 0, none⟩) n n] 24 (0, 0)) ∧ n = l.length ∧ EvAt w8 (some ⟨L, 0, none⟩) l ∧ ¬ False := (by simpa [RERA] using hr); have HE8 := Lib.hid hev8; have HN8 := Lib.hid hnl; have HB8 := Lib.hid hk; have cl : w8.cell? ⟨bl, 0, none⟩ = some (.slice (some ⟨L, 0, none⟩) n n) := (by rw [cell_of_row _ _ _ _ _ _ hrow]; rfl); clear hr hrow hnl hev8 hk)
  refine bodyPost_ret (results_tmp3Y rfl _ _ _) rfl ?_
  exact ⟨L, n, rfl, HN8.out, HE8.out, (HBW.out.trans (HB8.out.below HBW.out.size (fun k hk => by have hk : k = bl := hk; have := HBL.out; omega)))⟩
theorem evReadA_any (A : Option Addr) (N cap : Nat) (i p : Int) (Q : List Nat) (hN : Hid (N = Q.length)) (hQ : N ≤ 100000) (hc : N ≤ cap) (hcm : cap ≤ maxLen) (w : World) (HA : Hid (ByAt w A Q)) (HG : Hid (HalvesAt w)) :
    Calls Tryd.prog 5 #[.slice A N cap, .int .i64 i, .int .i64 p] w (EvRet (evOut p Q i) w) := by
  have hlen : (Pg.bodyAt Q i).length ≤ 1000000 := by
    unfold Pg.bodyAt
    split
    · rw [List.length_take, List.length_drop, List.length_drop]; have := hN.out; omega
    · exact Nat.zero_le _
  have HPR : ∀ w1, Below w.heap.size w w1 → Calls Tryd.prog 9 #[.slice A N cap, .int .i64 i] w1 fun e w' => ∃ A6 C6, e = .returned (.tuple #[.int .u8 (Pg.kindAt Q i : Nat), .slice A6 (Pg.bodyAt Q i).length C6, .int .i64 (Pg.endAt Q i), .int .i64 (Pg.errAt Q i : Nat)]) ∧ ByAt w' A6 (Pg.bodyAt Q i) ∧ (Pg.bodyAt Q i).length ≤ C6 ∧ C6 ≤ maxLen ∧ Below w1.heap.size w1 w' := fun w1 hb =>
    read_any A Q N cap i hN hc hcm w1 (Lib.hid (HA.out.keep hb)) (Lib.hid (HG.out.keep hb))
  by_cases he : Pg.errAt Q i = 0
  · by_cases hk : Pg.kindAt Q i = 101
    · rw [he, hk] at HPR
      rcases hev : evR p (Pg.bodyAt Q i) with _ | ⟨l, r⟩
      · have ho : evOut p Q i = .inl 3 := by unfold evOut; rw [if_neg (fun h => h he), if_neg (fun h => h hk), hev]
        rw [ho]
        exact evReadA_B A N cap i p _ _ (Lib.hid rfl) hlen _ none (fun b bl X w h => h) hev w (Lib.hid HPR)
      · rcases r with _ | ⟨a, r⟩
        · have ho : evOut p Q i = .inr (l, Pg.endAt Q i) := by unfold evOut; rw [if_neg (fun h => h he), if_neg (fun h => h hk), hev]
          rw [ho]
          exact evReadA_Y A N cap i p _ _ (Lib.hid rfl) hlen _ l hev w (Lib.hid HPR)
        · have ho : evOut p Q i = .inl 3 := by unfold evOut; rw [if_neg (fun h => h he), if_neg (fun h => h hk), hev]
          rw [ho]
          exact evReadA_B A N cap i p _ _ (Lib.hid rfl) hlen _ (some (l, a :: r)) (fun b bl X w h => by simpa using h.1) hev w (Lib.hid HPR)
    · have ho : evOut p Q i = .inl 3 := by unfold evOut; rw [if_neg (fun h => h he), if_pos hk]
      rw [ho]
      rw [he] at HPR
      exact evReadA_K A N cap i p _ _ (Lib.hid rfl) hlen _ _ (by omega) w (Lib.hid HPR)
  · have ho : evOut p Q i = .inl (Pg.errAt Q i) := by unfold evOut; rw [if_pos he]
    rw [ho]
    exact evReadA_E A N cap i p _ _ (Lib.hid rfl) hlen _ _ _ (by omega) w (Lib.hid HPR)
end Go.Proofs.YtpobfgokikfmbaaDoor

set_option linter.unusedSimpArgs false
set_option linter.unusedVariables false
set_option maxRecDepth 8000
namespace Go.Proofs.YtpobfgokikfmbaaDoor
open Go.RowKit Go.Sort Go.WideShapes Col
/-- Texts one behind the other, as the document's reader reads them. -/
def tS : Nat → Option (List Nat) → List (List Nat) × Option (List Nat)
  | 0, s => ([], s)
  | k + 1, s => ((tS k s).1 ++ [(textS 1048576 (tS k s).2).1], (textS 1048576 (tS k s).2).2)
theorem tS_len (k : Nat) (s : Option (List Nat)) : (tS k s).1.length = k := by
  induction k with
  | zero => rfl
  | succ k ih => rw [tS, List.length_append, ih]; rfl
structure DL (W : World) (m : Nat) (A6 : Option Addr) (C6 : Nat) (body : List Nat) (u v : Value) (wr : World) : Prop where
  ex : ∃ (j : Nat) (A : Option Addr) (c : Nat), j ≤ 5 ∧ v = .int .i64 (j : Int) ∧ u = .slice A j c ∧ OwnX wr (m + 1) A j c (tS j (some body)).1 ∧ RRA wr m A6 C6 body (tS j (some body)).2 ∧ Below W.heap.size W wr
/-- How one of the document's readings ends: with these, with none, or any way. -/
def RdY {α : Type} (P : α → Option Addr → Nat → Nat → World → Prop) (l : α) (w : World) (e : Ending) (w' : World) : Prop := ∃ A n c, e = .returned (.tuple #[.slice A n c, .bool true]) ∧ P l A n c w' ∧ Below w.heap.size w w'
def RdN (w : World) (e : Ending) (w' : World) : Prop := ∃ A n c, e = .returned (.tuple #[.slice A n c, .bool false]) ∧ Below w.heap.size w w'
def RdZ (w : World) (e : Ending) (w' : World) : Prop := ∃ A n c b, e = .returned (.tuple #[.slice A n c, .bool b]) ∧ Below w.heap.size w w'
def QI (l : List Int) (A : Option Addr) (n c : Nat) (w : World) : Prop := n = l.length ∧ IsAt w A l
def QT (l : List (List Nat)) (A : Option Addr) (n c : Nat) (w : World) : Prop := n = l.length ∧ TxAt w A l
def QF (l : List Nat) (A : Option Addr) (n c : Nat) (w : World) : Prop := n = l.length ∧ FlAt w A l
section
variable {w w' : World} {A : Option Addr} {n c : Nat}
theorem QI.keep {l : List Int} (h : QI l A n c w) (hb : Below w.heap.size w w') : QI l A n c w' := ⟨h.1, h.2.keep hb⟩
theorem QT.keep {l : List (List Nat)} (h : QT l A n c w) (hb : Below w.heap.size w w') : QT l A n c w' := ⟨h.1, h.2.keep hb⟩
theorem QF.keep {l : List Nat} (h : QF l A n c w) (hb : Below w.heap.size w w') : QF l A n c w' := ⟨h.1, h.2.keep hb⟩
end
theorem dInts_yes (l : List Int) (A : Option Addr) (C : Nat) (D : List Nat) (n : Nat) (hn : Hid (n = D.length)) (hl : n ≤ 1000000) (hC : n ≤ C) (hC' : C ≤ maxLen) (w : World) (HA : Hid (ByAt w A D)) (h : riL D = some l) : Calls Tryd.prog 15 #[.slice A n C] w (RdY QI l w) := by
  have h1 := refReadInts A C D n hn hl hC hC' w HA
  rw [h] at h1
  refine h1.mono fun e w' h => ?_
  obtain ⟨⟨A', n', c', he, ho⟩, hb⟩ := h
  exact ⟨A', n', c', he, ⟨ho.len, ho.isAt⟩, hb⟩
theorem dInts_no (A : Option Addr) (C : Nat) (D : List Nat) (n : Nat) (hn : Hid (n = D.length)) (hl : n ≤ 1000000) (hC : n ≤ C) (hC' : C ≤ maxLen) (w : World) (HA : Hid (ByAt w A D)) (h : riL D = none) : Calls Tryd.prog 15 #[.slice A n C] w (RdN w) := by
  have h1 := refReadInts A C D n hn hl hC hC' w HA
  rw [h] at h1
  exact h1.mono fun e w' h => ⟨none, 0, 0, h.1, h.2⟩
theorem dInts_any (A : Option Addr) (C : Nat) (D : List Nat) (n : Nat) (hn : Hid (n = D.length)) (hl : n ≤ 1000000) (hC : n ≤ C) (hC' : C ≤ maxLen) (w : World) (HA : Hid (ByAt w A D)) : Calls Tryd.prog 15 #[.slice A n C] w (RdZ w) := by
  rcases h : riL D with _ | l
  · exact (dInts_no A C D n hn hl hC hC' w HA h).mono fun e w' ⟨a, b, c, he, hb⟩ => ⟨a, b, c, false, he, hb⟩
  · exact (dInts_yes l A C D n hn hl hC hC' w HA h).mono fun e w' ⟨a, b, c, he, _, hb⟩ => ⟨a, b, c, true, he, hb⟩
theorem dTexts_yes (l : List (List Nat)) (A : Option Addr) (C : Nat) (D : List Nat) (n : Nat) (hn : Hid (n = D.length)) (hl : n ≤ 1000000) (hC : n ≤ C) (hC' : C ≤ maxLen) (w : World) (HA : Hid (ByAt w A D)) (h : rTL D = some l) : Calls Tryd.prog 16 #[.slice A n C] w (RdY QT l w) := by
  have h1 := refReadTexts A C D n hn hl hC hC' w HA
  rw [h] at h1
  refine h1.mono fun e w' h => ?_
  obtain ⟨⟨A', n', c', he, ho⟩, hb⟩ := h
  exact ⟨A', n', c', he, ⟨ho.len, ho.isAt⟩, hb⟩
theorem dTexts_no (A : Option Addr) (C : Nat) (D : List Nat) (n : Nat) (hn : Hid (n = D.length)) (hl : n ≤ 1000000) (hC : n ≤ C) (hC' : C ≤ maxLen) (w : World) (HA : Hid (ByAt w A D)) (h : rTL D = none) : Calls Tryd.prog 16 #[.slice A n C] w (RdN w) := by
  have h1 := refReadTexts A C D n hn hl hC hC' w HA
  rw [h] at h1
  exact h1.mono fun e w' h => ⟨none, 0, 0, h.1, h.2⟩
theorem dTexts_any (A : Option Addr) (C : Nat) (D : List Nat) (n : Nat) (hn : Hid (n = D.length)) (hl : n ≤ 1000000) (hC : n ≤ C) (hC' : C ≤ maxLen) (w : World) (HA : Hid (ByAt w A D)) : Calls Tryd.prog 16 #[.slice A n C] w (RdZ w) := by
  rcases h : rTL D with _ | l
  · exact (dTexts_no A C D n hn hl hC hC' w HA h).mono fun e w' ⟨a, b, c, he, hb⟩ => ⟨a, b, c, false, he, hb⟩
  · exact (dTexts_yes l A C D n hn hl hC hC' w HA h).mono fun e w' ⟨a, b, c, he, _, hb⟩ => ⟨a, b, c, true, he, hb⟩
theorem dReals_yes (l : List Nat) (A : Option Addr) (C : Nat) (D : List Nat) (n : Nat) (hn : Hid (n = D.length)) (hl : n ≤ 1000000) (hC : n ≤ C) (hC' : C ≤ maxLen) (w : World) (HA : Hid (ByAt w A D)) (h : rFL D = some l) : Calls Tryd.prog 17 #[.slice A n C] w (RdY QF l w) := by
  have h1 := refReadReals A C D n hn hl hC hC' w HA
  rw [h] at h1
  refine h1.mono fun e w' h => ?_
  obtain ⟨⟨A', n', c', he, ho⟩, hb⟩ := h
  exact ⟨A', n', c', he, ⟨ho.len, ho.isAt⟩, hb⟩
theorem dReals_no (A : Option Addr) (C : Nat) (D : List Nat) (n : Nat) (hn : Hid (n = D.length)) (hl : n ≤ 1000000) (hC : n ≤ C) (hC' : C ≤ maxLen) (w : World) (HA : Hid (ByAt w A D)) (h : rFL D = none) : Calls Tryd.prog 17 #[.slice A n C] w (RdN w) := by
  have h1 := refReadReals A C D n hn hl hC hC' w HA
  rw [h] at h1
  exact h1.mono fun e w' h => ⟨none, 0, 0, h.1, h.2⟩
theorem dReals_any (A : Option Addr) (C : Nat) (D : List Nat) (n : Nat) (hn : Hid (n = D.length)) (hl : n ≤ 1000000) (hC : n ≤ C) (hC' : C ≤ maxLen) (w : World) (HA : Hid (ByAt w A D)) : Calls Tryd.prog 17 #[.slice A n C] w (RdZ w) := by
  rcases h : rFL D with _ | l
  · exact (dReals_no A C D n hn hl hC hC' w HA h).mono fun e w' ⟨a, b, c, he, hb⟩ => ⟨a, b, c, false, he, hb⟩
  · exact (dReals_yes l A C D n hn hl hC hC' w HA h).mono fun e w' ⟨a, b, c, he, _, hb⟩ => ⟨a, b, c, true, he, hb⟩
theorem textS_wf (most : Nat) (s : Option (List Nat)) {body : List Nat} (hb : ∀ x ∈ body, x < 256) (hs : ∀ q, s = some q → ∃ k, k ≤ body.length ∧ q = body.drop k) : WfT (textS most s).1 := by
  rcases s with _ | q
  · intro c hc; cases hc
  · rcases h : tP most q with _ | ⟨t, r⟩
    · rw [textS_none h]; intro c hc; cases hc
    · rw [textS_some h]
      obtain ⟨n, q', h1, h2, h3, h4⟩ := tP_some h
      obtain ⟨-, -, m, hm0, hm, hml⟩ := grp_lt q 0 n q' (uP_some h1).1
      obtain ⟨k, hk, hq⟩ := hs q rfl
      intro c hc
      have hc : c ∈ t := hc
      rw [h3] at hc
      have hc := List.mem_of_mem_take hc
      rw [hm] at hc
      have hc := List.mem_of_mem_drop hc
      rw [hq] at hc
      exact hb c (List.mem_of_mem_drop hc)
theorem off_low {w : World} {A : Option Addr} {p : List Nat} (h : ByAt w A p) : Off (fun k => w.heap.size ≤ k) A p := fun a ha hp e => by
  obtain ⟨-, g, off, h2, h3, -⟩ := h 0 p[0] (List.getElem?_eq_getElem hp)
  rw [h2] at ha; injection ha with ha; subst ha
  have e : w.heap.size ≤ g := e
  omega
theorem rra_grow {w w' : World} {mR : Nat} {A6 : Option Addr} {C6 : Nat} {body : List Nat} {s : Option (List Nat)} {o : Obj} {row : Option Nat} (h : RRA w mR A6 C6 body s) (hg : (w.alloc o).grownBy w' row) {Ac : Option Addr} {j cc : Nat} {l : List (List Nat)} (ho : OwnX w (mR + 1) Ac j cc l) (hr : row = Ac.map (·.block)) (hA : Off (fun k => mR ≤ k) A6 body) : RRA w' mR A6 C6 body s := by
  subst hr
  have h1 : RRA (w.alloc o) mR A6 C6 body s := h.keep (S := fun _ => False) ((Kept.refl _ _).alloc o) (fun e => e) (fun a _ _ e => e)
  refine h1.keep (S := fun k => Ac.map (·.block) = some k) (Kept.of_grown hg) (fun e => ?_) (fun a ha hp e => ?_)
  · have := ho.base _ e; omega
  · have := ho.base _ e; exact hA a ha hp (by show mR ≤ a.block; omega)
set_option maxHeartbeats 8000000 in
theorem dRead_T (A : Option Addr) (N cap : Nat) (i p : Int) (body : List Nat) (m : Nat) (hm : Hid (m = body.length)) (hq : m ≤ 1000000) (hbw : Hid (∀ x ∈ body, x < 256)) (E : Int) (kd : Nat) (hbad : kd ≠ 101 ∨ (tS 5 (some body)).2 ≠ some []) (w : World)
    (HPR : Hid (Calls Tryd.prog 13 #[.slice A N cap, .int .i64 i] w fun e w' => ∃ A6 C6, e = .returned (.tuple #[.int .u8 (kd : Int), .slice A6 m C6, .int .i64 E, .int .i64 0]) ∧ ByAt w' A6 body ∧ m ≤ C6 ∧ C6 ≤ maxLen ∧ Below w.heap.size w w')) :
    Calls Tryd.prog 6 #[.slice A N cap, .int .i64 i, .int .i64 p] w fun e w' => e = .returned (.tuple #[.slice none 0 0, .int .i64 0, .int .i64 3]) ∧ Below w.heap.size w w' := by
  go_enter Tryd.func6, Tryd.ntmps6
  go_upto_region 5 with (go_at_call 13; (with_reducible refine (HPR.out).mono ?_); rintro e w1 ⟨A6, C6, rfl, h1, h2, h3, h4⟩; have HBY := Lib.hid h1; have hC6 := h2; have hM6 := h3; have HB1 := Lib.hid h4; clear h1 h2 h3 h4)
  have HRR : Hid (RRA (w1.alloc (.cells #[.slice A6 m C6, .int .i64 0] 47)) w1.heap.size A6 C6 body (some body)) := Lib.hid (by rw [hm.out]; exact rra_new (by have := hm.out; omega) (by have := hm.out; omega) hM6 HBY.out)
  have HBn := Lib.hid (HB1.out.alloc HB1.out.size (.cells #[.slice A6 m C6, .int .i64 0] 47))
  have HMW : Hid (w.heap.size ≤ w1.heap.size) := Lib.hid HB1.out.size
  have HA6 : Hid (Off (fun k => w1.heap.size ≤ k) A6 body) := Lib.hid (off_low HBY.out)
  generalize w1.alloc _ = w2 at *
  generalize w1.heap.size = mR at *
  have HD0 : Hid (DL w mR A6 C6 body (.slice none 0 0) (.int .i64 0) w2) := Lib.hid ⟨⟨0, none, 0, Nat.zero_le _, rfl, rfl, OwnX.nil _ _, HRR.out, HBn.out⟩⟩
  clear HRR HBn HBY HB1
  go_wp2
  go_loopw [14, 15] (fun u v wr => DL w mR A6 C6 body u v wr) (fun _ v _ => 5 - (intOf v).toNat)
  case atStart => exact HD0.out
  case round =>
    obtain ⟨j, Ac, cc, hj, rfl, rfl, hox, hrr, hbr⟩ := hrel.ex
    have HOX := Lib.hid hox; have HR := Lib.hid hrr; have HBR := Lib.hid hbr
    clear hrel hox hrr hbr HD0
    by_cases hj5 : j < 5
    · have hji : (j : Int) < 5 := by omega
      have HT := Lib.hid (rtext_any mR C6 A6 body 1048576 (by decide) (tS j (some body)).2 wr HR)
      have hmr : mR < wr.heap.size := HR.out.lt
      have HTW : Hid (WfT (textS 1048576 (tS j (some body)).2).1) := Lib.hid (textS_wf _ _ hbw.out HR.out.suf)
      have HTS : Hid (tS (j + 1) (some body) = ((tS j (some body)).1 ++ [(textS 1048576 (tS j (some body)).2).1], (textS 1048576 (tS j (some body)).2).2)) := Lib.hid rfl
      generalize (textS 1048576 (tS j (some body)).2).1 = Dn at *
      generalize (textS 1048576 (tS j (some body)).2).2 = Sn at *
      go_wp2_with (first
        | (go_at_call 14; refine (HT.out).mono ?_; rintro e w3 hy; obtain ⟨rfl, HR3, HK3⟩ := hy.at; have HO3 := Lib.hid (HOX.out.keptGX HK3.out (by omega)); have HB3 : Hid (Below w.heap.size w w3) := Lib.hid (HBR.out.trans (HK3.out.below HBR.out.size (fun k hk => by have hk : k = mR := hk; have := HMW.out; omega))); have h3s : wr.heap.size ≤ w3.heap.size := HK3.out.size; clear hy)
        | (at_builtin; refine wpList_append_tx rfl (.tmp 47) (.tmp 50) rfl (mR + 1) Ac j cc _ rfl (HO3.out.keep ((Below.refl _ _).alloc (Nat.le_refl _) _)) ⟨w3.heap.size, 0, none⟩ 1 1 [Dn] rfl rfl (tx_one w3 Dn HTW.out) (by omega) (by simp; omega) ?_; intro A4 c4 w4 ho hg; have HO4 := Lib.hid ho; have hal : Below w.heap.size w (w3.alloc (.cells #[.string (strB Dn)] 9)) := HB3.out.alloc HB3.out.size _; have HB4 : Hid (Below w.heap.size w w4) := Lib.hid (hal.grown hg hal.size (fun k hk => by have h9 := HO3.out.base k hk; have h8 := HMW.out; omega)); have HK4 : Hid (RRA w4 mR A6 C6 body Sn) := Lib.hid (rra_grow HR3.out hg HO3.out rfl HA6.out); clear ho hg hal)
        | (at_builtin; trace_state; sorry))
      go_roundw
      case rel => exact ⟨⟨j + 1, A4, c4, by omega, by go_num, rfl, by rw [HTS.out]; exact HO4.out, by rw [HTS.out]; exact HK4.out, HB4.out⟩⟩
      case measure => simp [intOf]; omega
    · obtain rfl : j = 5 := by omega
      have hc1 := HR.out.c1
      have hat : kd = 101 → ¬ atR body (tS 5 (some body)).2 = (m : Int) := by
        intro hk
        rcases hbad with h | h
        · exact absurd hk h
        · rw [hm.out]
          have hsu := HR.out.suf
          rcases hS : (tS 5 (some body)).2 with _ | r
          · show ¬ (-1 : Int) = _
            omega
          · obtain ⟨k, hk, hr⟩ := hsu r hS
            have hr0 : 0 < r.length := by
              rcases r with _ | ⟨x, r⟩
              · exact absurd hS h
              · simp
            show ¬ ((body.length : Int) - (r.length : Int)) = _
            omega
      generalize atR body (tS 5 (some body)).2 = z at *

      by_cases hk : kd = 101
      · have hz := hat hk
        have hzb : ((m : Int) == z) = false := by simp; omega
        have hzb2 : (z == (m : Int)) = false := by simp; omega
        subst hk
        go_wp2
        all_goals (refine bodyPost_ret (results_tmp3Y rfl _ _ _) rfl ?_; exact ⟨rfl, HBR.out⟩)
      · have hki : ¬ (kd : Int) = 101 := by omega
        go_wp2
        all_goals (refine bodyPost_ret (results_tmp3Y rfl _ _ _) rfl ?_; exact ⟨rfl, HBR.out⟩)
set_option maxHeartbeats 8000000 in
theorem dRead_E (A : Option Addr) (N cap : Nat) (i p : Int) (c : Nat) (hc : ¬ (c : Int) = 0) (w : World)
    (HPR : Hid (Calls Tryd.prog 13 #[.slice A N cap, .int .i64 i] w fun e w' => ∃ v1 v2 v3, e = .returned (.tuple #[v1, v2, v3, .int .i64 (c : Int)]) ∧ Below w.heap.size w w')) :
    Calls Tryd.prog 6 #[.slice A N cap, .int .i64 i, .int .i64 p] w fun e w' => e = .returned (.tuple #[.slice none 0 0, .int .i64 0, .int .i64 (c : Int)]) ∧ Below w.heap.size w w' := by
  have hc2 : ((c : Int) != 0) = true := by simpa using hc
  go_enter Tryd.func6, Tryd.ntmps6
  go_wp2_with (go_at_call 13; (with_reducible refine (HPR.out).mono ?_); rintro e w1 ⟨v1, v2, v3, rfl, h4⟩; have HB1 := Lib.hid h4; clear h4)
  all_goals (refine bodyPost_ret (results_tmp3Y rfl _ _ _) rfl ?_; exact ⟨rfl, HB1.out⟩)
end Go.Proofs.YtpobfgokikfmbaaDoor

set_option linter.unusedSimpArgs false
set_option linter.unusedVariables false
set_option maxRecDepth 8000
namespace Go.Proofs.YtpobfgokikfmbaaDoor
open Go.RowKit Go.Sort Go.WideShapes Col
/-- How one of the document's readings ends: whether it went well, and with what. -/
def RdQ {α : Type} (P : α → Option Addr → Nat → Nat → World → Prop) (b : Bool) (l : α) (w : World) (e : Ending) (w' : World) : Prop := ∃ A n c, e = .returned (.tuple #[.slice A n c, .bool b]) ∧ (b = true → P l A n c w') ∧ Below w.heap.size w w'
theorem dInts_q (A : Option Addr) (C : Nat) (D : List Nat) (n : Nat) (hn : Hid (n = D.length)) (hl : n ≤ 1000000) (hC : n ≤ C) (hC' : C ≤ maxLen) (w : World) (HA : Hid (ByAt w A D)) : Calls Tryd.prog 15 #[.slice A n C] w (RdQ QI (riL D).isSome ((riL D).getD []) w) := by
  rcases h : riL D with _ | l
  · exact (dInts_no A C D n hn hl hC hC' w HA h).mono fun e w' ⟨a, b, c, he, hb⟩ => ⟨a, b, c, he, (fun h => by cases h), hb⟩
  · exact (dInts_yes l A C D n hn hl hC hC' w HA h).mono fun e w' ⟨a, b, c, he, hq, hb⟩ => ⟨a, b, c, he, (fun _ => hq), hb⟩
theorem dTexts_q (A : Option Addr) (C : Nat) (D : List Nat) (n : Nat) (hn : Hid (n = D.length)) (hl : n ≤ 1000000) (hC : n ≤ C) (hC' : C ≤ maxLen) (w : World) (HA : Hid (ByAt w A D)) : Calls Tryd.prog 16 #[.slice A n C] w (RdQ QT (rTL D).isSome ((rTL D).getD []) w) := by
  rcases h : rTL D with _ | l
  · exact (dTexts_no A C D n hn hl hC hC' w HA h).mono fun e w' ⟨a, b, c, he, hb⟩ => ⟨a, b, c, he, (fun h => by cases h), hb⟩
  · exact (dTexts_yes l A C D n hn hl hC hC' w HA h).mono fun e w' ⟨a, b, c, he, hq, hb⟩ => ⟨a, b, c, he, (fun _ => hq), hb⟩
theorem dReals_q (A : Option Addr) (C : Nat) (D : List Nat) (n : Nat) (hn : Hid (n = D.length)) (hl : n ≤ 1000000) (hC : n ≤ C) (hC' : C ≤ maxLen) (w : World) (HA : Hid (ByAt w A D)) : Calls Tryd.prog 17 #[.slice A n C] w (RdQ QF (rFL D).isSome ((rFL D).getD []) w) := by
  rcases h : rFL D with _ | l
  · exact (dReals_no A C D n hn hl hC hC' w HA h).mono fun e w' ⟨a, b, c, he, hb⟩ => ⟨a, b, c, he, (fun h => by cases h), hb⟩
  · exact (dReals_yes l A C D n hn hl hC hC' w HA h).mono fun e w' ⟨a, b, c, he, hq, hb⟩ => ⟨a, b, c, he, (fun _ => hq), hb⟩
set_option maxHeartbeats 16000000 in
theorem dRead_N (A : Option Addr) (N cap : Nat) (i p : Int) (body : List Nat) (m : Nat) (hm : Hid (m = body.length)) (hq : m ≤ 1000000) (hbw : Hid (∀ x ∈ body, x < 256)) (E : Int) (D1 D2 D3 D4 D5 : List Nat) (d1 d2 d3 d4 d5 : Nat)
    (HS : Hid (tS 5 (some body) = ([D1, D2, D3, D4, D5], some [])))
    (HW1 : WfT D1) (hd1 : Hid (d1 = D1.length)) (hl1 : d1 ≤ 1000000) (b1 : Bool) (O : List Int) (HR1 : Hid (∀ A C w', ByAt w' A D1 → d1 ≤ C → C ≤ maxLen → Calls Tryd.prog 15 #[.slice A d1 C] w' (RdQ QI b1 O w')))
    (HW2 : WfT D2) (hd2 : Hid (d2 = D2.length)) (hl2 : d2 ≤ 1000000) (b2 : Bool) (P : List Int) (HR2 : Hid (∀ A C w', ByAt w' A D2 → d2 ≤ C → C ≤ maxLen → Calls Tryd.prog 15 #[.slice A d2 C] w' (RdQ QI b2 P w')))
    (HW3 : WfT D3) (hd3 : Hid (d3 = D3.length)) (hl3 : d3 ≤ 1000000) (b3 : Bool) (T : List Int) (HR3 : Hid (∀ A C w', ByAt w' A D3 → d3 ≤ C → C ≤ maxLen → Calls Tryd.prog 15 #[.slice A d3 C] w' (RdQ QI b3 T w')))
    (HW4 : WfT D4) (hd4 : Hid (d4 = D4.length)) (hl4 : d4 ≤ 1000000) (b4 : Bool) (K0 : List (List Nat)) (HR4 : Hid (∀ A C w', ByAt w' A D4 → d4 ≤ C → C ≤ maxLen → Calls Tryd.prog 16 #[.slice A d4 C] w' (RdQ QT b4 K0 w')))
    (HW5 : WfT D5) (hd5 : Hid (d5 = D5.length)) (hl5 : d5 ≤ 1000000) (b5 : Bool) (V : List Nat) (HR5 : Hid (∀ A C w', ByAt w' A D5 → d5 ≤ C → C ≤ maxLen → Calls Tryd.prog 17 #[.slice A d5 C] w' (RdQ QF b5 V w')))
    (hbad : b1 = true → b2 = true → b3 = true → b4 = true → b5 = true → P.length = O.length → T.length = O.length → K0.length = O.length → V.length = O.length → False) (w : World)
    (HPR : Hid (Calls Tryd.prog 13 #[.slice A N cap, .int .i64 i] w fun e w' => ∃ A6 C6, e = .returned (.tuple #[.int .u8 101, .slice A6 m C6, .int .i64 E, .int .i64 0]) ∧ ByAt w' A6 body ∧ m ≤ C6 ∧ C6 ≤ maxLen ∧ Below w.heap.size w w')) :
    Calls Tryd.prog 6 #[.slice A N cap, .int .i64 i, .int .i64 p] w fun e w' => e = .returned (.tuple #[.slice none 0 0, .int .i64 0, .int .i64 3]) ∧ Below w.heap.size w w' := by
  have HCV1 : Hid (∀ w : World, ∃ (w' : World) (C : Nat), (convert 9 22 (.string (strB D1))).run Tryd.prog w = .ok (.slice (some ⟨w.heap.size, 0, none⟩) d1 C) w' ∧ ByAt w' (some ⟨w.heap.size, 0, none⟩) D1 ∧ Below w.heap.size w w' ∧ d1 ≤ C ∧ C ≤ maxLen) := Lib.hid fun w => conv_sbY D1 HW1 (by rw [← hd1.out]; exact hl1) d1 hd1.out w
  have HCV2 : Hid (∀ w : World, ∃ (w' : World) (C : Nat), (convert 9 22 (.string (strB D2))).run Tryd.prog w = .ok (.slice (some ⟨w.heap.size, 0, none⟩) d2 C) w' ∧ ByAt w' (some ⟨w.heap.size, 0, none⟩) D2 ∧ Below w.heap.size w w' ∧ d2 ≤ C ∧ C ≤ maxLen) := Lib.hid fun w => conv_sbY D2 HW2 (by rw [← hd2.out]; exact hl2) d2 hd2.out w
  have HCV3 : Hid (∀ w : World, ∃ (w' : World) (C : Nat), (convert 9 22 (.string (strB D3))).run Tryd.prog w = .ok (.slice (some ⟨w.heap.size, 0, none⟩) d3 C) w' ∧ ByAt w' (some ⟨w.heap.size, 0, none⟩) D3 ∧ Below w.heap.size w w' ∧ d3 ≤ C ∧ C ≤ maxLen) := Lib.hid fun w => conv_sbY D3 HW3 (by rw [← hd3.out]; exact hl3) d3 hd3.out w
  have HCV4 : Hid (∀ w : World, ∃ (w' : World) (C : Nat), (convert 9 22 (.string (strB D4))).run Tryd.prog w = .ok (.slice (some ⟨w.heap.size, 0, none⟩) d4 C) w' ∧ ByAt w' (some ⟨w.heap.size, 0, none⟩) D4 ∧ Below w.heap.size w w' ∧ d4 ≤ C ∧ C ≤ maxLen) := Lib.hid fun w => conv_sbY D4 HW4 (by rw [← hd4.out]; exact hl4) d4 hd4.out w
  have HCV5 : Hid (∀ w : World, ∃ (w' : World) (C : Nat), (convert 9 22 (.string (strB D5))).run Tryd.prog w = .ok (.slice (some ⟨w.heap.size, 0, none⟩) d5 C) w' ∧ ByAt w' (some ⟨w.heap.size, 0, none⟩) D5 ∧ Below w.heap.size w w' ∧ d5 ≤ C ∧ C ≤ maxLen) := Lib.hid fun w => conv_sbY D5 HW5 (by rw [← hd5.out]; exact hl5) d5 hd5.out w
  go_enter Tryd.func6, Tryd.ntmps6
  go_upto_region 5 with (go_at_call 13; (with_reducible refine (HPR.out).mono ?_); rintro e w1 ⟨A6, C6, rfl, h1, h2, h3, h4⟩; have HBY := Lib.hid h1; have hC6 := h2; have hM6 := h3; have HB1 := Lib.hid h4; clear h1 h2 h3 h4)
  have HRR : Hid (RRA (w1.alloc (.cells #[.slice A6 m C6, .int .i64 0] 47)) w1.heap.size A6 C6 body (some body)) := Lib.hid (by rw [hm.out]; exact rra_new (by have := hm.out; omega) (by have := hm.out; omega) hM6 HBY.out)
  have HBn := Lib.hid (HB1.out.alloc HB1.out.size (.cells #[.slice A6 m C6, .int .i64 0] 47))
  have HMW : Hid (w.heap.size ≤ w1.heap.size) := Lib.hid HB1.out.size
  have HA6 : Hid (Off (fun k => w1.heap.size ≤ k) A6 body) := Lib.hid (off_low HBY.out)
  generalize w1.alloc _ = w2 at *
  generalize w1.heap.size = mR at *
  have HD0 : Hid (DL w mR A6 C6 body (.slice none 0 0) (.int .i64 0) w2) := Lib.hid ⟨⟨0, none, 0, Nat.zero_le _, rfl, rfl, OwnX.nil _ _, HRR.out, HBn.out⟩⟩
  clear HRR HBn HBY HB1
  go_wp2
  go_loopw [14, 15] (fun u v wr => DL w mR A6 C6 body u v wr) (fun _ v _ => 5 - (intOf v).toNat)
  case atStart => exact HD0.out
  case round =>
    obtain ⟨j, Ac, cc, hj, rfl, rfl, hox, hrr, hbr⟩ := hrel.ex
    have HOX := Lib.hid hox; have HR := Lib.hid hrr; have HBR := Lib.hid hbr
    clear hrel hox hrr hbr HD0
    by_cases hj5 : j < 5
    · have hji : (j : Int) < 5 := by omega
      have HT := Lib.hid (rtext_any mR C6 A6 body 1048576 (by decide) (tS j (some body)).2 wr HR)
      have hmr : mR < wr.heap.size := HR.out.lt
      have HTW : Hid (WfT (textS 1048576 (tS j (some body)).2).1) := Lib.hid (textS_wf _ _ hbw.out HR.out.suf)
      have HTS : Hid (tS (j + 1) (some body) = ((tS j (some body)).1 ++ [(textS 1048576 (tS j (some body)).2).1], (textS 1048576 (tS j (some body)).2).2)) := Lib.hid rfl
      generalize (textS 1048576 (tS j (some body)).2).1 = Dn at *
      generalize (textS 1048576 (tS j (some body)).2).2 = Sn at *
      go_wp2_with (first
        | (go_at_call 14; refine (HT.out).mono ?_; rintro e w3 hy; obtain ⟨rfl, HR3, HK3⟩ := hy.at; have HO3 := Lib.hid (HOX.out.keptGX HK3.out (by omega)); have HB3 : Hid (Below w.heap.size w w3) := Lib.hid (HBR.out.trans (HK3.out.below HBR.out.size (fun k hk => by have hk : k = mR := hk; have := HMW.out; omega))); have h3s : wr.heap.size ≤ w3.heap.size := HK3.out.size; clear hy)
        | (at_builtin; refine wpList_append_tx rfl (.tmp 47) (.tmp 50) rfl (mR + 1) Ac j cc _ rfl (HO3.out.keep ((Below.refl _ _).alloc (Nat.le_refl _) _)) ⟨w3.heap.size, 0, none⟩ 1 1 [Dn] rfl rfl (tx_one w3 Dn HTW.out) (by omega) (by simp; omega) ?_; intro A4 c4 w4 ho hg; have HO4 := Lib.hid ho; have hal : Below w.heap.size w (w3.alloc (.cells #[.string (strB Dn)] 9)) := HB3.out.alloc HB3.out.size _; have HB4 : Hid (Below w.heap.size w w4) := Lib.hid (hal.grown hg hal.size (fun k hk => by have h9 := HO3.out.base k hk; have h8 := HMW.out; omega)); have HK4 : Hid (RRA w4 mR A6 C6 body Sn) := Lib.hid (rra_grow HR3.out hg HO3.out rfl HA6.out); clear ho hg hal)
        | (at_builtin; trace_state; sorry))
      go_roundw
      case rel => exact ⟨⟨j + 1, A4, c4, by omega, by go_num, rfl, by rw [HTS.out]; exact HO4.out, by rw [HTS.out]; exact HK4.out, HB4.out⟩⟩
      case measure => simp [intOf]; omega
    · obtain rfl : j = 5 := by omega
      have hc1 := HR.out.c1
      have hat : atR body (tS 5 (some body)).2 = (m : Int) := by rw [HS.out, hm.out]; show (body.length : Int) - ((([] : List Nat).length : Nat) : Int) = _; simp
      rw [hat] at hc1
      have hox := HOX.out.isAt
      rw [HS.out] at hox
      obtain ⟨-, g, off, hA, hgw, hcc1⟩ := hox 0 D1 rfl
      subst hA
      have hcc0 : wr.cell? ⟨g, off, none⟩ = some (.string (strB D1)) := hcc1
      clear hcc1
      obtain ⟨-, g2, off2, hA, -, hcc2⟩ := hox 1 D2 rfl
      injection hA with hA; injection hA with e1 e2; subst e1; subst e2
      obtain ⟨-, g3, off3, hA, -, hcc3⟩ := hox 2 D3 rfl
      injection hA with hA; injection hA with e1 e2; subst e1; subst e2
      obtain ⟨-, g4, off4, hA, -, hcc4⟩ := hox 3 D4 rfl
      injection hA with hA; injection hA with e1 e2; subst e1; subst e2
      obtain ⟨-, g5, off5, hA, -, hcc5⟩ := hox 4 D5 rfl
      injection hA with hA; injection hA with e1 e2; subst e1; subst e2
      have HGW := Lib.hid hgw; have HB0 := Lib.hid (Below.refl wr.heap.size wr)
      have HCC2 := Lib.hid hcc2
      have HCC3 := Lib.hid hcc3
      have HCC4 := Lib.hid hcc4
      have HCC5 := Lib.hid hcc5
      clear hox hat hcc2 hcc3 hcc4 hcc5
      obtain ⟨x1, C1, hcv1, hby1, hx1, hC1, hM1⟩ := HCV1.out wr
      have HY1 := Lib.hid hby1; have HX1 := Lib.hid hx1; clear hby1 hx1
      go_upto_region 13 with
        (go_at_call 15; (with_reducible refine (HR1.out _ C1 _ HY1.out hC1 hM1).mono ?_); rintro e y1 ⟨A1, n1, c1, rfl, hq, hb⟩; have HQ1 := Lib.hid hq; have HZ1 := Lib.hid (below_to HX1.out hb); have HB1 := Lib.hid (HZ1.out); clear hq hb hcv1; have hcc2 : y1.cell? ⟨g, off + 1, none⟩ = some (.string (strB D2)) := (HB1.out.cell (p := ⟨g, off + 1, none⟩) HGW.out).trans HCC2.out; obtain ⟨x2, C2, hcv2, hby, hx, hC2, hM2⟩ := HCV2.out y1; have HY2 := Lib.hid hby; have HX2 := Lib.hid hx; clear hby hx)
      go_upto_region 14 with
        (go_at_call 15; (with_reducible refine (HR2.out _ C2 _ HY2.out hC2 hM2).mono ?_); rintro e y2 ⟨A2, n2, c2, rfl, hq, hb⟩; have HQ2 := Lib.hid hq; have HZ2 := Lib.hid (below_to HX2.out hb); have HB2 := Lib.hid (HB1.out.trans (HZ2.out.mono HB1.out.size)); clear hq hb hcv2; have hcc3 : y2.cell? ⟨g, off + 2, none⟩ = some (.string (strB D3)) := (HB2.out.cell (p := ⟨g, off + 2, none⟩) HGW.out).trans HCC3.out; obtain ⟨x3, C3, hcv3, hby, hx, hC3, hM3⟩ := HCV3.out y2; have HY3 := Lib.hid hby; have HX3 := Lib.hid hx; clear hby hx)
      go_upto_region 15 with
        (go_at_call 15; (with_reducible refine (HR3.out _ C3 _ HY3.out hC3 hM3).mono ?_); rintro e y3 ⟨A3, n3, c3, rfl, hq, hb⟩; have HQ3 := Lib.hid hq; have HZ3 := Lib.hid (below_to HX3.out hb); have HB3 := Lib.hid (HB2.out.trans (HZ3.out.mono HB2.out.size)); clear hq hb hcv3; have hcc4 : y3.cell? ⟨g, off + 3, none⟩ = some (.string (strB D4)) := (HB3.out.cell (p := ⟨g, off + 3, none⟩) HGW.out).trans HCC4.out; obtain ⟨x4, C4, hcv4, hby, hx, hC4, hM4⟩ := HCV4.out y3; have HY4 := Lib.hid hby; have HX4 := Lib.hid hx; clear hby hx)
      go_upto_region 16 with
        (go_at_call 16; (with_reducible refine (HR4.out _ C4 _ HY4.out hC4 hM4).mono ?_); rintro e y4 ⟨A4, n4, c4, rfl, hq, hb⟩; have HQ4 := Lib.hid hq; have HZ4 := Lib.hid (below_to HX4.out hb); have HB4 := Lib.hid (HB3.out.trans (HZ4.out.mono HB3.out.size)); clear hq hb hcv4; have hcc5 : y4.cell? ⟨g, off + 4, none⟩ = some (.string (strB D5)) := (HB4.out.cell (p := ⟨g, off + 4, none⟩) HGW.out).trans HCC5.out; obtain ⟨x5, C5, hcv5, hby, hx, hC5, hM5⟩ := HCV5.out y4; have HY5 := Lib.hid hby; have HX5 := Lib.hid hx; clear hby hx)
      go_upto_region 17 with
        (go_at_call 17; (with_reducible refine (HR5.out _ C5 _ HY5.out hC5 hM5).mono ?_); rintro e y5 ⟨A5, n5, c5, rfl, hq, hb⟩; have HQ5 := Lib.hid hq; have HZ5 := Lib.hid (below_to HX5.out hb); have HB5 := Lib.hid (HB4.out.trans (HZ5.out.mono HB4.out.size)); clear hq hb hcv5)
      have HBW := Lib.hid (below_to HBR.out HB5.out)
      clear HB0 HB1 HB2 HB3 HB4 HR1 HR2 HR3 HR4 HR5 HCV1 HCV2 HCV3 HCV4 HCV5 HY1 HY2 HY3 HY4 HY5 HX1 HX2 HX3 HX4 HX5 hc1 hcc0 HPR HR HOX
      rcases b1 with _ | _
      · go_wp2
        all_goals (refine bodyPost_ret (results_tmp3Y rfl _ _ _) rfl ?_; exact ⟨rfl, HBW.out⟩)
      rcases b2 with _ | _
      · go_wp2
        all_goals (refine bodyPost_ret (results_tmp3Y rfl _ _ _) rfl ?_; exact ⟨rfl, HBW.out⟩)
      rcases b3 with _ | _
      · go_wp2
        all_goals (refine bodyPost_ret (results_tmp3Y rfl _ _ _) rfl ?_; exact ⟨rfl, HBW.out⟩)
      rcases b4 with _ | _
      · go_wp2
        all_goals (refine bodyPost_ret (results_tmp3Y rfl _ _ _) rfl ?_; exact ⟨rfl, HBW.out⟩)
      rcases b5 with _ | _
      · go_wp2
        all_goals (refine bodyPost_ret (results_tmp3Y rfl _ _ _) rfl ?_; exact ⟨rfl, HBW.out⟩)
      have L1 : n1 = O.length := (HQ1.out rfl).1
      have L2 : n2 = P.length := (HQ2.out rfl).1
      have L3 : n3 = T.length := (HQ3.out rfl).1
      have L4 : n4 = K0.length := (HQ4.out rfl).1
      have L5 : n5 = V.length := (HQ5.out rfl).1
      by_cases h2 : n2 = n1
      case neg =>
        have x2 : ((n2 : Int) == (n1 : Int)) = false := by rw [beq_eq_false_iff_ne]; omega
        have z2 : ((n2 : Int) != (n1 : Int)) = true := by rw [bne_iff_ne]; omega
        go_wp2
        all_goals (refine bodyPost_ret (results_tmp3Y rfl _ _ _) rfl ?_; exact ⟨rfl, HBW.out⟩)
      have y2y : ((n2 : Int) == (n1 : Int)) = true := by rw [h2]; simp
      have z2z : ((n2 : Int) != (n1 : Int)) = false := by rw [h2]; simp
      by_cases h3 : n3 = n1
      case neg =>
        have x3 : ((n3 : Int) == (n1 : Int)) = false := by rw [beq_eq_false_iff_ne]; omega
        have z3 : ((n3 : Int) != (n1 : Int)) = true := by rw [bne_iff_ne]; omega
        go_wp2
        all_goals (refine bodyPost_ret (results_tmp3Y rfl _ _ _) rfl ?_; exact ⟨rfl, HBW.out⟩)
      have y3y : ((n3 : Int) == (n1 : Int)) = true := by rw [h3]; simp
      have z3z : ((n3 : Int) != (n1 : Int)) = false := by rw [h3]; simp
      by_cases h4 : n4 = n1
      case neg =>
        have x4 : ((n4 : Int) == (n1 : Int)) = false := by rw [beq_eq_false_iff_ne]; omega
        have z4 : ((n4 : Int) != (n1 : Int)) = true := by rw [bne_iff_ne]; omega
        go_wp2
        all_goals (refine bodyPost_ret (results_tmp3Y rfl _ _ _) rfl ?_; exact ⟨rfl, HBW.out⟩)
      have y4y : ((n4 : Int) == (n1 : Int)) = true := by rw [h4]; simp
      have z4z : ((n4 : Int) != (n1 : Int)) = false := by rw [h4]; simp
      by_cases h5 : n5 = n1
      case neg =>
        have x5 : ((n5 : Int) == (n1 : Int)) = false := by rw [beq_eq_false_iff_ne]; omega
        have z5 : ((n5 : Int) != (n1 : Int)) = true := by rw [bne_iff_ne]; omega
        go_wp2
        all_goals (refine bodyPost_ret (results_tmp3Y rfl _ _ _) rfl ?_; exact ⟨rfl, HBW.out⟩)
      have y5y : ((n5 : Int) == (n1 : Int)) = true := by rw [h5]; simp
      have z5z : ((n5 : Int) != (n1 : Int)) = false := by rw [h5]; simp
      exact (hbad rfl rfl rfl rfl rfl (by omega) (by omega) (by omega) (by omega)).elim
end Go.Proofs.YtpobfgokikfmbaaDoor
