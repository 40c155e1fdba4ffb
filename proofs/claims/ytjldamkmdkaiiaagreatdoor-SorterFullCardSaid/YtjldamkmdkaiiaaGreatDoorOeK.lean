/-
  Layer sorter: event.Read of a page of up to 256 events in the midst of others.
-/
import Derived.Laws.BytesArg
import Derived.Test.YtjldamkmdkaiiaaGreatDoorGlK
import Derived.Test.YtjldamkmdkaiiaaGreatDoorGyK
import Derived.Test.YtjldamkmdkaiiaaGreatDoorJcK
import Derived.Test.YtjldamkmdkaiiaaGreatDoorCyK
set_option linter.unusedSimpArgs false
set_option linter.unusedVariables false
set_option maxRecDepth 8000
namespace Go.Proofs.YtjldamkmdkaiiaaGreatDoor
open Go.RowKit
def part (b0 b1 b2 b3 : Nat) : Nat → Nat
 | 0 => 0
 | 1 => b3
 | 2 => b3 * 256 + b2
 | 3 => (b3 * 256 + b2) * 256 + b1
 | _ => ((b3 * 256 + b2) * 256 + b1) * 256 + b0
namespace Pg
def oneErr (l : List Nat) (kind : Nat) : Nat := if errAt l 0 ≠ 0 then errAt l 0 else if kindAt l 0 = kind ∧ endAt l 0 = (l.length : Int) then 0 else 3
def oneBody (l : List Nat) (kind : Nat) : List Nat := if oneErr l kind = 0 then bodyAt l 0 else []
end Pg
def RetO (w : World) (l : List Nat) (kind : Nat) (e : Ending) (w' : World) : Prop := ∃ A cap, e = .returned (.tuple #[.slice A (Pg.oneBody l kind).length cap, .int .i64 (Pg.oneErr l kind : Nat)]) ∧
 ByAt w' A (Pg.oneBody l kind) ∧ (Pg.oneBody l kind).length ≤ cap ∧ cap ≤ maxLen ∧ Below w.heap.size w w'
theorem RetO.err {w w' : World} {l : List Nat} {kind : Nat} {c : Int} (h : Pg.oneErr l kind ≠ 0) (hc : c = ((Pg.oneErr l kind : Nat) : Int)) (hb : Below w.heap.size w w') : RetO w l kind (.returned (.tuple #[.slice none 0 0, .int .i64 c])) w' := by
 have hb0 : Pg.oneBody l kind = [] := if_neg h
 exact ⟨none, 0, by rw [hb0, hc]; rfl, by rw [hb0]; exact ByAt.nil _ _, by rw [hb0]; exact Nat.le_refl _, Nat.zero_le _, hb⟩
namespace Pg
theorem lay_len (kind : Nat) (body : List Nat) : (lay kind body).length = 9 + body.length := by unfold lay four; rw [List.length_append, front_len]; simp; omega
theorem front_four (kind : Nat) (body : List Nat) : front kind body = four body.length ++ kind :: body := rfl
theorem four_len (n : Nat) : (four n).length = 4 := rfl
theorem errOf_lay (kind : Nat) (body r : List Nat) (hk : kind < 256) (hb : ∀ x ∈ body, x < 256) (hm : body.length ≤ 1048576) : errOf (lay kind body ++ r) = 0 ∧ sz (lay kind body ++ r) = body.length ∧ (lay kind body ++ r).getD 4 0 = kind ∧ ((lay kind body ++ r).drop 5).take body.length = body := by
 have h1 : lay kind body ++ r = four body.length ++ (kind :: (body ++ (four (sum (front kind body)) ++ r))) := by unfold lay; rw [front_four]; simp
 have hs : sz (lay kind body ++ r) = body.length := by
  unfold sz
  rw [h1, List.take_append_of_le_length (by rw [four_len]; exact Nat.le_refl _), List.take_of_length_le (by rw [four_len]; exact Nat.le_refl _), val_four _ (by omega)]
 refine ⟨?_, hs, ?_, ?_⟩
 ·unfold errOf
  have hl : (lay kind body ++ r).length = 9 + body.length + r.length := by rw [List.length_append, lay_len]
  rw [hs, if_neg (by omega), if_neg (by omega), if_neg (by omega), if_pos]
  have h2 : lay kind body ++ r = front kind body ++ (four (sum (front kind body)) ++ r) := by unfold lay; rw [List.append_assoc]
  have hf := front_len kind body
  rw [h2, ← hf, List.take_append_of_le_length (Nat.le_refl _), List.take_length, List.drop_append_of_le_length (Nat.le_refl _), List.drop_length, List.nil_append, List.take_append_of_le_length (by rw [four_len]; exact Nat.le_refl _), List.take_of_length_le (by rw [four_len]; exact Nat.le_refl _)]
  exact val_four _ (sum_lt (front_lt kind body hk hb))
 ·rw [h1]; rfl
 ·rw [h1, show (four body.length ++ (kind :: (body ++ (four (sum (front kind body)) ++ r)))).drop 5 = body ++ (four (sum (front kind body)) ++ r) from rfl, List.take_append_of_le_length (Nat.le_refl _), List.take_length]
theorem read_lay (l : List Nat) (kind : Nat) (body r : List Nat) (i : Int) (hi : i = (l.length : Int)) (hk : kind < 256) (hb : ∀ x ∈ body, x < 256) (hm : body.length ≤ 1048576) :
  errAt (l ++ (lay kind body ++ r)) i = 0 ∧ kindAt (l ++ (lay kind body ++ r)) i = kind ∧ bodyAt (l ++ (lay kind body ++ r)) i = body ∧ endAt (l ++ (lay kind body ++ r)) i = i + 9 + body.length := by
 obtain ⟨h1, h2, h3, h4⟩ := errOf_lay kind body r hk hb hm
 have hd : (l ++ (lay kind body ++ r)).drop i.toNat = lay kind body ++ r := by
  rw [hi, Int.toNat_natCast, List.drop_append_of_le_length (Nat.le_refl _), List.drop_length, List.nil_append]
 have he : errAt (l ++ (lay kind body ++ r)) i = 0 := by
  unfold errAt
  rw [if_neg (by rw [List.length_append, hi]; omega), hd, h1]
 refine ⟨he, ?_, ?_, ?_⟩
 ·unfold kindAt; rw [if_pos he, hd, h3]
 ·unfold bodyAt; rw [if_pos he, hd, h2, h4]
 ·unfold endAt; rw [if_pos he, hd, h2]
end Pg
theorem Roomy.set4 {w : World} {B g k cap : Nat} {cs : List Value} {l : List Nat} (h : Roomy w B g k cap cs l) (n : Nat) (hn : n < 4294967296) (i0 i1 i2 i3 : Int) (h0 : i0 = ((n % 256 : Nat) : Int)) (h1 : i1 = ((n / 256 % 256 : Nat) : Int)) (h2 : i2 = ((n / 65536 % 256 : Nat) : Int)) (h3 : i3 = ((n / 16777216 % 256 : Nat) : Int))
  (hl : ∃ a b c d r, l = a :: b :: c :: d :: r) : Roomy ((((w.setCell ⟨g, 0, none⟩ (.int .u8 i0)).setCell ⟨g, 1, none⟩ (.int .u8 i1)).setCell ⟨g, 2, none⟩ (.int .u8 i2)).setCell ⟨g, 3, none⟩ (.int .u8 i3)) B g k cap ((((cs.set 0 (bv (n % 256))).set 1 (bv (n / 256 % 256))).set 2 (bv (n / 65536 % 256))).set 3 (bv (n / 16777216 % 256))) (Pg.four n ++ l.drop 4) := by
 obtain ⟨a, b, c, d, r, rfl⟩ := hl
 subst h0 h1 h2 h3
 exact (((h.set 0 (n % 256) (by omega)).set 1 (n / 256 % 256) (by omega)).set 2 (n / 65536 % 256) (by omega)).set 3 (n / 16777216 % 256) (by omega)
end Go.Proofs.YtjldamkmdkaiiaaGreatDoor
namespace Go.Proofs.YtjldamkmdkaiiaaGreatDoor
open Go.RowKit Go.Sort Go.WideShapes Col
theorem evY_le (l : List Ev) (hf : ∀ x ∈ l, FineE x) (hn : l.length ≤ 320) : (evY l).length ≤ 45620 := by
 have z1 := txL_le _ 6423 (by omega) (ints_60 (l.map oI) (oI_wf hf) (by rw [List.length_map]; omega))
 have z2 := txL_le _ 6423 (by omega) (ints_60 (l.map Ev.part) (part_wf hf) (by rw [List.length_map]; omega))
 have z3 := txL_le _ 6423 (by omega) (ints_60 (l.map Ev.time) (time_wf hf) (by rw [List.length_map]; omega))
 have z4 := txL_le _ 19878 (by omega) (texts_60 (l.map kL) (fun y hy => (kL_all hf y hy).1) (fun y hy => (kL_all hf y hy).2) (by rw [List.length_map]; omega))
 have z5 := txL_le _ 6423 (by omega) (ints_60 ((l.map Ev.val).map rwI) (fun y hy => by obtain ⟨u, -, rfl⟩ := List.mem_map.1 hy; exact rwI_wf u) (by rw [List.length_map, List.length_map]; omega))
 unfold evY
 rw [List.length_append, List.length_append, List.length_append, List.length_append]
 omega
theorem evY_lin (l : List Ev) (hf : ∀ x ∈ l, FineE x) (hn : l.length ≤ 320) : (evY l).length ≤ 180 + 142 * l.length := by
 have k1 := ints_lin (l.map oI) (oI_wf hf) (by rw [List.length_map]; omega)
 have k2 := ints_lin (l.map Ev.part) (part_wf hf) (by rw [List.length_map]; omega)
 have k3 := ints_lin (l.map Ev.time) (time_wf hf) (by rw [List.length_map]; omega)
 have k4 := texts_lin (l.map kL) (fun y hy => (kL_all hf y hy).1) (fun y hy => (kL_all hf y hy).2) (by rw [List.length_map]; omega)
 have k5 := ints_lin ((l.map Ev.val).map rwI) (fun y hy => by obtain ⟨u, -, rfl⟩ := List.mem_map.1 hy; exact rwI_wf u) (by rw [List.length_map, List.length_map]; omega)
 have e1 : (l.map oI).length = l.length := List.length_map _
 have e2 : (l.map Ev.part).length = l.length := List.length_map _
 have e3 : (l.map Ev.time).length = l.length := List.length_map _
 have e4 : (l.map kL).length = l.length := List.length_map _
 have e5 : ((l.map Ev.val).map rwI).length = l.length := by rw [List.length_map, List.length_map]
 rw [e1] at k1; rw [e2] at k2; rw [e3] at k3; rw [e4] at k4; rw [e5] at k5
 have z1 := txL_le _ _ (by omega) k1
 have z2 := txL_le _ _ (by omega) k2
 have z3 := txL_le _ _ (by omega) k3
 have z4 := txL_le _ _ (by omega) k4
 have z5 := txL_le _ _ (by omega) k5
 unfold evY
 rw [List.length_append, List.length_append, List.length_append, List.length_append]
 omega
theorem readEv_any (g : Nat) (l : List Ev) (hn6 : l.length ≤ 320) (hfin : Hid (∀ x ∈ l, FineE x)) (hw : ∀ x ∈ evY l, x < 256) (p : Int) (w : World) (H : Hid (Rd w g (evY l))) :
  Calls Tryz.prog 92 #[.pointer (some ⟨g, 0, none⟩), .int .i64 p] w (EvEnds g l p w) := by
 have hf := hfin.out
 have hle := evY_le l hf hn6
 have he := evY_assoc l
 have hl := congrArg List.length he
 simp only [List.length_append, List.length_nil] at hl
 have hsub : ∀ x ∈ txL (intsL (l.map oI)) ++ (txL (intsL (l.map Ev.part)) ++ (txL (intsL (l.map Ev.time)) ++ (txL (textsL (l.map kL)) ++ (txL (intsL ((l.map Ev.val).map rwI)) ++ [])))), x < 256 := by rw [← he]; exact hw
 have tl : ∀ D : List Nat, D.length ≤ (txL D).length := fun D => by unfold txL; rw [List.length_append]; omega
 have tm : ∀ (D : List Nat) (x : Nat), x ∈ D → x ∈ txL D := fun D x hx => by unfold txL; exact List.mem_append.2 (.inr hx)
 have d1 := tl (intsL (l.map oI)); have d2 := tl (intsL (l.map Ev.part)); have d3 := tl (intsL (l.map Ev.time)); have d4 := tl (textsL (l.map kL)); have d5 := tl (intsL ((l.map Ev.val).map rwI))
 have h0 := H.out
 rw [he] at h0
 refine readEv_core g l l.length (Lib.hid rfl) hn6 hfin p (txL (intsL (l.map oI))) [] [] [] [] (txL (intsL (l.map Ev.part)) ++ (txL (intsL (l.map Ev.time)) ++ (txL (textsL (l.map kL)) ++ (txL (intsL ((l.map Ev.val).map rwI)) ++ [])))) (txL (intsL (l.map Ev.time)) ++ (txL (textsL (l.map kL)) ++ (txL (intsL ((l.map Ev.val).map rwI)) ++ []))) (txL (textsL (l.map kL)) ++ (txL (intsL ((l.map Ev.val).map rwI)) ++ [])) (txL (intsL ((l.map Ev.val).map rwI)) ++ []) w (Lib.hid h0)
  (Lib.hid fun w' h => rcol_int64 _ (intsL (l.map oI)) (fun x hx => hsub x (List.mem_append.2 (.inl (tm _ x hx)))) (by omega) (Lib.hid fun A C w h1 h2 h3 => readI_yes (l.map oI) (oI_wf hf) (by rw [List.length_map]; exact hn6) A C w h1 h2 h3) g _ (by simp only [List.length_append, List.length_nil]; omega) w' (Lib.hid h))
  (Lib.hid fun w' h => rcol_int64 _ (intsL (l.map Ev.part)) (fun x hx => hsub x (List.mem_append.2 (.inr (List.mem_append.2 (.inl (tm _ x hx)))))) (by omega) (Lib.hid fun A C w h1 h2 h3 => readI_yes (l.map Ev.part) (part_wf hf) (by rw [List.length_map]; exact hn6) A C w h1 h2 h3) g _ (by simp only [List.length_append, List.length_nil]; omega) w' (Lib.hid h))
  (Lib.hid fun w' h => rcol_int64 _ (intsL (l.map Ev.time)) (fun x hx => hsub x (List.mem_append.2 (.inr (List.mem_append.2 (.inr (List.mem_append.2 (.inl (tm _ x hx)))))))) (by omega) (Lib.hid fun A C w h1 h2 h3 => readI_yes (l.map Ev.time) (time_wf hf) (by rw [List.length_map]; exact hn6) A C w h1 h2 h3) g _ (by simp only [List.length_append, List.length_nil]; omega) w' (Lib.hid h))
  (Lib.hid fun w' h => rcol_string _ (textsL (l.map kL)) (fun x hx => hsub x (List.mem_append.2 (.inr (List.mem_append.2 (.inr (List.mem_append.2 (.inr (List.mem_append.2 (.inl (tm _ x hx)))))))))) (by omega) (Lib.hid fun A C w h1 h2 h3 => readT_yes (l.map kL) (fun y hy => (kL_all hf y hy).1) (fun y hy => (kL_all hf y hy).2) (by rw [List.length_map]; exact hn6) A C w h1 h2 h3) g _ (by simp only [List.length_append, List.length_nil]; omega) w' (Lib.hid h))
  (Lib.hid fun w' h => rcol_float64 _ (intsL ((l.map Ev.val).map rwI)) (fun x hx => hsub x (List.mem_append.2 (.inr (List.mem_append.2 (.inr (List.mem_append.2 (.inr (List.mem_append.2 (.inr (List.mem_append.2 (.inl (tm _ x hx)))))))))))) (by omega) (Lib.hid fun A C w h1 h2 h3 => readF_yes (l.map Ev.val) (val_lt hf) (by rw [List.length_map]; exact hn6) A C w h1 h2 h3) g _ (by simp only [List.length_append, List.length_nil]; omega) w' (Lib.hid h))
theorem Rd.keptLowY {w w' : World} {g bl : Nat} (h : Rd w g []) (hk : Kept (fun k => k = bl) w w') (hg : bl < g) (_ : bl = g → False) : Rd w' g [] := by
 obtain ⟨A, C, h⟩ := h
 exact ⟨A, C, h.keep hk (fun e => by have e : g = bl := e; omega) (fun a ha h0 e => by simp at h0)⟩
theorem EvAt.keptY {S : Nat → Prop} {w w' : World} {a : Option Addr} {l : List Ev} (h : EvAt w a l) (hk : Kept S w w') (ho : ∀ b, a = some b → ¬ S b.block) : EvAt w' a l := fun j v hv => by
 obtain ⟨g, off, h2, h3, h4⟩ := h j v hv
 exact ⟨g, off, h2, Nat.lt_of_lt_of_le h3 hk.size, (hk.cell (p := ⟨g, off + j, none⟩) h3 (fun e => ho ⟨g, off, none⟩ h2 e)).trans h4⟩
def RER (l : List Ev) (p : Int) (bl : Nat) (X : Nat → Prop) (b : Bool) (w : World) : Prop :=
 ((∀ x ∈ l, formB x p = true) ∧ b = true ∧ ∃ L n, w.heap[bl]? = some (.cells #[.slice (some ⟨L, 0, none⟩) n n] 22 (0, 0)) ∧ n = l.length ∧ EvAt w (some ⟨L, 0, none⟩) (l.map canE) ∧ ¬ X L) ∨
 ((∃ x ∈ l, formB x p = false) ∧ b = false)
theorem results_tmp3Y {fn : Func} {t u v : Tmp} (h : fn.results = #[.tmp t, .tmp u, .tmp v]) (tmps : Array Value) (P : Program) (w : World) :
  (results fn tmps).run P w = .ok (.tuple #[tmps.getD t undef, tmps.getD u undef, tmps.getD v undef]) w := by simp [results, h]
theorem alloc_newY (w : World) (o : Obj) : (w.alloc o).heap[w.heap.size]? = some o := heap_alloc_new' w o
theorem page_factsT (l tl : List Nat) (n m kind : Nat) (body : List Nat) (hn : n = l.length) (hm : m = body.length) (hk : kind < 256) (hb : ∀ x ∈ body, x < 256) (hs : m ≤ 1048576) :
  Pg.errAt (l ++ (Pg.lay kind body ++ tl)) (n : Int) = 0 ∧ Pg.kindAt (l ++ (Pg.lay kind body ++ tl)) (n : Int) = kind ∧ Pg.bodyAt (l ++ (Pg.lay kind body ++ tl)) (n : Int) = body ∧ Pg.endAt (l ++ (Pg.lay kind body ++ tl)) (n : Int) = (n : Int) + 5 + (m : Int) + 4 := by
 obtain ⟨h1, h2, h3, h4⟩ := Pg.read_lay l kind body tl (n : Int) (by rw [hn]) hk hb (by omega)
 exact ⟨h1, h2, h3, by rw [h4, ← hm]; omega⟩
set_option maxHeartbeats 2000000 in
theorem evFn_anyL (g bp bl : Nat) (l : List Ev) (hn6 : l.length ≤ 320) (hfin : Hid (∀ x ∈ l, FineE x)) (hw : ∀ x ∈ evY l, x < 256) (p : Int) (w : World) (hbp : bp < g) (hbl : bl < g) (hne : bp ≠ bl)
  (HP : Hid (w.heap[bp]? = some (.cells #[.int .i64 p] 3 (0, 0)))) (HL : Hid (w.heap[bl]? = some (.cells #[.slice none 0 0] 22 (0, 0)))) (H : Hid (Rd w g (evY l))) :
  Calls Tryz.prog 91 #[.pointer (some ⟨g, 0, none⟩), .pointer (some ⟨bp, 0, none⟩), .pointer (some ⟨bl, 0, none⟩)] w (Tried g (fun k => k = bl) (RER l p bl (fun k => k ≤ g)) w) := by
 have HRE := Lib.hid (readEv_any g l hn6 hfin hw p w H)
 have cp : w.cell? ⟨bp, 0, none⟩ = some (.int .i64 p) := by rw [cell_of_row _ _ _ _ _ _ HP.out]; rfl
 have hbw : bl < w.heap.size := (Array.getElem?_eq_some_iff.1 HL.out).1
 have hgw : g < w.heap.size := by obtain ⟨A, C, h⟩ := H.out; exact h.lt
 by_cases hall : ∀ x ∈ l, formB x p = true
 ·have HRY : Hid (Calls Tryz.prog 92 #[.pointer (some ⟨g, 0, none⟩), .int .i64 p] w fun e w' => ∃ L n, e = .returned (.slice (some ⟨L, 0, none⟩) n n) ∧ n = l.length ∧ EvAt w' (some ⟨L, 0, none⟩) (l.map canE) ∧ Rd w' g [] ∧ Kept (Only g) w w' ∧ w.heap.size ≤ L) := Lib.hid (HRE.out.mono fun e w' h => by
   rcases h with ⟨-, h⟩ | ⟨⟨x, hx, hfx⟩, -⟩
   ·exact h
   ·rw [hall x hx] at hfx; cases hfx)
  clear HRE
  go_enter Tryz.func91, Tryz.ntmps91
  go_wp2_with (go_at_call 92; (with_reducible refine (HRY.out).mono ?_); rintro e w1 ⟨L, n, rfl, h1, h2, h3, h4, h5⟩; have HN := Lib.hid h1; have HE := Lib.hid h2; have HR := Lib.hid h3; have HK := Lib.hid h4; have HLL := Lib.hid h5; have HL1 := Lib.hid (h4.heap HL.out (fun e => by have e : bl = g := e; omega)); have cl : w1.cell? ⟨bl, 0, none⟩ = some (.slice none 0 0) := (by rw [cell_of_row _ _ _ _ _ _ HL1.out]; rfl); have fl := row_frozen HL1.out 0; clear h1 h2 h3 h4 h5)
  have hkc : Kept (fun k => k = bl) w1 (w1.setCell ⟨bl, 0, none⟩ (.slice (some ⟨L, 0, none⟩) n n)) := (Kept.refl _ _).setCell _ _ (.inl rfl)
  refine bodyPost_ret (results_none rfl _ _ _) rfl ⟨?_, .inl ⟨[], rfl, ?_, ?_⟩⟩
  ·exact (HK.out.mono (S' := fun k => k = bl ∨ k = g) (fun k h => .inl (.inr h))).trans' hkc (fun i hi => .inl (.inl hi))
  ·exact HR.out.keptLowY hkc (by omega) (fun e => by omega)
  ·refine .inl ⟨hall, rfl, L, n, ?_, HN.out, HE.out.keptY hkc (fun b hb => by injection hb with hb; subst hb; intro e; have e : L = bl := e; have := HLL.out; omega), fun e => by have e : L ≤ g := e; have := HLL.out; omega⟩
   rw [World.setCell]
   simp [Array.getElem?_modify, HL1.out]
 ·have hbad : ∃ x ∈ l, formB x p = false := by
   rcases Classical.not_forall.1 hall with ⟨x, hx⟩
   rw [Classical.not_imp] at hx
   exact ⟨x, hx.1, by simpa using hx.2⟩
  have HRN : Hid (Calls Tryz.prog 92 #[.pointer (some ⟨g, 0, none⟩), .int .i64 p] w fun e w' => e = .panicked [gu g] ∧ Gone w' g ∧ Kept (Only g) w w') := Lib.hid (HRE.out.mono fun e w' h => by
   rcases h with ⟨h, -⟩ | ⟨-, h⟩
   ·exact absurd h hall
   ·exact h)
  clear HRE
  go_enter Tryz.func91, Tryz.ntmps91
  go_wp2_with (go_at_call 92; (with_reducible refine (HRN.out).mono ?_); rintro e w1 ⟨rfl, h1, h2⟩)
  exact ⟨rfl, h2.mono (fun k h => .inl (.inr h)), .inr ⟨rfl, h1, .inr ⟨hbad, rfl⟩⟩⟩
theorem rer_yesL {l : List Ev} {p : Int} {bl : Nat} {X : Nat → Prop} {b : Bool} {w : World} (hall : ∀ x ∈ l, formB x p = true) (h : RER l p bl X b w) : b = true ∧ ∃ L, w.heap[bl]? = some (.cells #[.slice (some ⟨L, 0, none⟩) l.length l.length] 22 (0, 0)) ∧ EvAt w (some ⟨L, 0, none⟩) (l.map canE) ∧ ¬ X L := by
 rcases h with ⟨-, h, L, n, h1, h2, h3, h4⟩ | ⟨⟨x, hx, hfx⟩, -⟩
 ·exact ⟨h, L, h2 ▸ h1, h3, h4⟩
 ·rw [hall x hx] at hfx; cases hfx
theorem rer_keepL {l : List Ev} {p : Int} {bl g B : Nat} {b : Bool} {w w' : World} (h : RER l p bl (fun k => k ≤ g) b w) (hk : Kept (Only g) w w') (hg : bl < g) (hB : B ≤ g) : RER l p bl (fun k => k < B) b w' := by
 rcases h with ⟨h1, h2, L, n, h3, h4, h5, h6⟩ | h
 ·refine .inl ⟨h1, h2, L, n, hk.heap h3 (fun e => by have e : bl = g := e; omega), h4, h5.keptY hk (fun b hb => ?_), fun h => h6 (by show L ≤ g; have h : L < B := h; omega)⟩
  injection hb with hb
  subst hb
  intro e
  have e : L = g := e
  exact h6 (by show L ≤ g; omega)
 ·exact .inr h
set_option maxHeartbeats 8000000 in
theorem evRead_mid (A : Option Addr) (N cap np : Nat) (q tl : List Nat) (l : List Ev) (p : Int) (hn6 : l.length ≤ 320) (hfin : Hid (∀ x ∈ l, FineE x)) (hall : ∀ x ∈ l, formB x p = true) (hq : Hid (np = q.length)) (hw : ∀ x ∈ evY l, x < 256) (hN : Hid (N = (q ++ (Pg.lay 101 (evY l) ++ tl)).length)) (hc : N ≤ cap) (hcm : cap ≤ maxLen) (w : World) (HA : Hid (ByAt w A (q ++ (Pg.lay 101 (evY l) ++ tl)))) (HG : Hid (HalvesAt w)) :
  Calls Tryz.prog 75 #[.slice A N cap, .int .i64 (np : Int), .int .i64 p] w fun e w' => ∃ L, e = .returned (.tuple #[.slice (some ⟨L, 0, none⟩) l.length l.length, .int .i64 ((np : Int) + 5 + ((evY l).length : Int) + 4), .int .i64 0]) ∧ EvAt w' (some ⟨L, 0, none⟩) (l.map canE) ∧ Below w.heap.size w w' ∧ w.heap.size ≤ L := by
 have hle := evY_le l hfin.out hn6
 obtain ⟨m, hm⟩ : ∃ m, m = (evY l).length := ⟨_, rfl⟩
 obtain ⟨f1, f2, f3, f4⟩ := page_factsT q tl np m 101 (evY l) hq.out hm (by decide) hw (by omega)
 obtain ⟨E, hE⟩ : ∃ E : Int, E = (np : Int) + 5 + (m : Int) + 4 := ⟨_, rfl⟩
 have HPR : Hid (∀ w1, Below w.heap.size w w1 → Calls Tryz.prog 89 #[.slice A N cap, .int .i64 (np : Int)] w1 fun e w' => ∃ A6 C6, e = .returned (.tuple #[.int .u8 101, .slice A6 m C6, .int .i64 E, .int .i64 0]) ∧ ByAt w' A6 (evY l) ∧ m ≤ C6 ∧ C6 ≤ maxLen ∧ Below w1.heap.size w1 w') := Lib.hid fun w1 hb => by
  refine (read_any A _ N cap np hN hc hcm w1 (Lib.hid (HA.out.keep hb)) (Lib.hid (HG.out.keep hb))).mono fun e w' h => ?_
  obtain ⟨A6, C6, he, h1, h2, h3, h4⟩ := h
  rw [f3] at h1 h2 he
  rw [f1, f2, f4, ← hm, ← hE] at he
  exact ⟨A6, C6, he, h1, by omega, h3, h4⟩
 rw [← hm, ← hE]
 obtain ⟨w0, hw0⟩ : ∃ w0, w0 = w.alloc (.cells #[.int .i64 p] 3) := ⟨_, rfl⟩
 obtain ⟨bp, hbp⟩ : ∃ bp, bp = w.heap.size := ⟨_, rfl⟩
 have HB0 : Hid (Below w.heap.size w w0) := Lib.hid (by rw [hw0]; exact (Below.refl _ _).alloc (Nat.le_refl _) _)
 have HP0 : Hid (w0.heap[bp]? = some (.cells #[.int .i64 p] 3 (0, 0))) := Lib.hid (by rw [hw0, hbp]; exact alloc_newY w _)
 have HW0 := Lib.hid hw0; have HBP := Lib.hid hbp; have HM := Lib.hid hm
 clear f1 f2 f3 f4 hE hw0 hbp hm hle
 go_enter Tryz.func75, Tryz.ntmps75
 go_upto_region 1 with fail
 rw [← HW0.out, ← HBP.out]
 go_upto_region 5 with (go_at_call 89; (with_reducible refine (HPR.out w0 HB0.out).mono ?_); rintro e w1 ⟨A6, C6, rfl, h1, h2, h3, h4⟩; have HBY := Lib.hid h1; have hC6 := h2; have hM6 := h3; have HB1 := Lib.hid (below_to HB0.out h4); have HP1 : Hid (w1.heap[bp]? = some (.cells #[.int .i64 p] 3 (0, 0))) := Lib.hid ((h4.block bp (Array.getElem?_eq_some_iff.1 HP0.out).1).trans HP0.out); clear h1 h2 h3 h4)
 obtain ⟨w2, hw2⟩ : ∃ w2, w2 = w1.alloc (.cells #[.slice none 0 0] 22) := ⟨_, rfl⟩
 obtain ⟨bl, hbl⟩ : ∃ bl, bl = w1.heap.size := ⟨_, rfl⟩
 have hb2 : Below w1.heap.size w1 w2 := by rw [hw2]; exact (Below.refl _ _).alloc (Nat.le_refl _) _
 have HBW := Lib.hid (below_to HB1.out hb2)
 have HL2 : Hid (w2.heap[bl]? = some (.cells #[.slice none 0 0] 22 (0, 0))) := Lib.hid (by rw [hw2, hbl]; exact alloc_newY w1 _)
 have hbpl : bp < bl := by rw [hbl]; exact (Array.getElem?_eq_some_iff.1 HP1.out).1
 have HP2 : Hid (w2.heap[bp]? = some (.cells #[.int .i64 p] 3 (0, 0))) := Lib.hid ((hb2.block bp (by omega)).trans HP1.out)
 have hblw : bl < w2.heap.size := (Array.getElem?_eq_some_iff.1 HL2.out).1
 have HBL : Hid (w.heap.size ≤ bl) := Lib.hid (by rw [hbl]; exact HB1.out.size)
 have ht := try_any 91 #[] #[.pointer (some ⟨bp, 0, none⟩), .pointer (some ⟨bl, 0, none⟩)] A6 C6 (evY l) m HM hC6 hM6 w2 (Lib.hid (HBY.out.keep hb2)) (fun k => k = bl) (fun k hk => by omega)
  (fun g b w' => RER l p bl (fun k => k ≤ g) b w') (fun b w' => RER l p bl (fun k => k < w.heap.size) b w')
  (fun g b v2 v3 hg h hk => rer_keepL h hk (by omega) (Nat.le_trans HBW.out.size hg))
  (fun g v2 hg hr hb => evFn_anyL g bp bl l hn6 hfin hw p v2 (by omega) (by omega) (by omega) (Lib.hid ((hb.block bp (by omega)).trans HP2.out)) (Lib.hid ((hb.block bl hblw).trans HL2.out)) (Lib.hid hr))
  (fun _ _ => by first | rfl | kernel_rfl)
 have HT := Lib.hid ht
 have HW2 := Lib.hid hw2; have HBLL := Lib.hid hbl
 have hmf : ∀ (fn : Fn) (first cap : Array Value) (w : World), (Instr.makeFunc fn first cap).run Tryz.prog w = .ok (.func fn first cap) w := fun _ _ _ _ => rfl
 clear ht hw2 hbl hb2 hblw hbpl HPR HB0 HP0 HW0 HBP HBY
 rw [← HW2.out, ← HBLL.out]
 go_wp2_with (go_at_call 90; (with_reducible refine (HT.out).mono ?_); rintro e w8 ⟨b, rfl, hr, hk⟩; have hr2 := rer_yesL hall hr; obtain ⟨rfl, L, hrow, hev, hlow⟩ := hr2; have HLOW : Hid (w.heap.size ≤ L) := Lib.hid (by omega); have HE8 := Lib.hid hev; have HB8 := Lib.hid hk; have cl : w8.cell? ⟨bl, 0, none⟩ = some (.slice (some ⟨L, 0, none⟩) l.length l.length) := (by rw [cell_of_row _ _ _ _ _ _ hrow]; rfl); clear hr hrow hev hk hlow)
 refine bodyPost_ret (results_tmp3Y rfl _ _ _) rfl ?_
 exact ⟨L, rfl, HE8.out, (HBW.out.trans (HB8.out.below HBW.out.size (fun k hk => by have hk : k = bl := hk; have := HBL.out; omega))), HLOW.out⟩
end Go.Proofs.YtjldamkmdkaiiaaGreatDoor
