/-
  Layer sorter: take of a run that is there, where the power may go off.
-/
import Derived.Lib.LaidTab
import Derived.Lib.ItoaNum
import Derived.Test.YtjldamkmdkaiiaaGreatDoorOdK
import Derived.Lib.Strings
import Derived.Test.YtjldamkmdkaiiaaGreatDoorIkK
import Derived.Test.YtjldamkmdkaiiaaGreatDoorTie
import Derived.Test.YtjldamkmdkaiiaaGreatDoorCards
import Derived.ProofKit
import Derived.Laws.Cover2
import Derived.WideKeyArgs
import Derived.Carry
import Derived.Deep.Slices
import Derived.LaidMore
import Derived.OpenShut
import Derived.Stop.Joined
import Derived.SevenTiedAt
import Derived.SizedLaws
import Derived.Test.YtjldamkmdkaiiaaGreatDoorGlK
import Derived.Test.YtjldamkmdkaiiaaGreatDoorEfK
import Derived.Stop.LaidErr
set_option linter.unusedSimpArgs false
set_option linter.unusedVariables false
set_option maxRecDepth 8000
namespace Go.Proofs.YtjldamkmdkaiiaaGreatDoor
open Go.RowKit Go.WideShapes Col
def RunsAt9 (w : World) (b g : Nat) (parts : Int) (N : Option Addr) (n c : Nat) (laid : Nat) : Prop := w.heap[b]? = some (.cells #[.pointer (some ⟨g, 0, none⟩), .int .i64 parts, .slice N n c, .int .i64 (laid : Int)] 70 (0, 0))
theorem not_st {t : TypeId} (h1 : t ≠ 58) (h2 : t ≠ 64) (h3 : t ≠ 5) : ¬ StT t := fun h => h.elim h1 (fun h => h.elim h2 h3)
theorem KF.row {w w' : World} {k : Nat} {cs : Array Value} {t : TypeId} {fr : Nat × Nat} (h : KF w w') (hr : w.heap[k]? = some (.cells cs t fr)) (ht : ¬ StT t) : w'.heap[k]? = some (.cells cs t fr) :=
 h.kept k _ hr fun cs' t' fr' e => by injection e with _ e _; rw [← e]; exact ht
theorem RunsAt9.kf {w w' : World} {b g : Nat} {parts : Int} {N : Option Addr} {n c laid : Nat} (h : RunsAt9 w b g parts N n c laid) (hk : KF w w') : RunsAt9 w' b g parts N n c laid :=
 hk.row h (not_st (by decide) (by decide) (by decide))
theorem RunsAt9.keep {w w' : World} {b g : Nat} {parts : Int} {N : Option Addr} {n c laid : Nat} (h : RunsAt9 w b g parts N n c laid) (hb : Below w.heap.size w w') : RunsAt9 w' b g parts N n c laid := row_kept h hb
theorem ownE_kf {w w' : World} {B n cap : Nat} {A : Option Addr} {l : List Ev} (h : OwnE w B A n cap l) (hk : KF w w') : OwnE w' B A n cap l := by
 refine ⟨h.1, ?_⟩
 rcases h.2 with h1 | ⟨g, cap', cur, h1, hb, hrow, hrest⟩
 ·exact .inl h1
 ·exact .inr ⟨g, cap', cur, h1, hb, hk.row hrow (not_st (by decide) (by decide) (by decide)), hrest⟩
def PowAt (w : World) : Prop := Lib.TabIs Tryz.prog w "internal/strconv.uint64pow10" .u64 Lib.pow10Tab
theorem PowAt.keep {W w : World} (h : PowAt W) (hb : Below W.heap.size W w) : PowAt w := by
 unfold PowAt Lib.TabIs World.var? at *
 cases hg : Tryz.prog.globalNamed "internal/strconv.uint64pow10" with
 | none => simp [hg] at h
 | some g =>
  simp only [hg, Option.bind_some] at h ⊢
  have hlt : g < W.heap.size := by
   rcases Nat.lt_or_ge g W.heap.size with h' | h'
   ·exact h'
   ·rw [Array.getElem?_eq_none h'] at h; simp at h
  rw [hb.block g hlt]
  exact h
def TabsAt (w : World) : Prop := HalvesAt w ∧ PowAt w
theorem tabs_sa {W : Bs} {g : Nat} {room armed ops : Int} {off : Bool} {xs : List Fil} {w : World} (HG : TabsAt W.b) (hg : W.heap.size ≤ g) (h : SA W g room off armed ops xs w) : TabsAt w := ⟨HG.1.keep (gb_new h.below hg), HG.2.keep (gb_new h.below hg)⟩
theorem halves_sa {W : Bs} {g : Nat} {room armed ops : Int} {off : Bool} {xs : List Fil} {w : World} (HG : TabsAt W.b) (hg : W.heap.size ≤ g) (h : SA W g room off armed ops xs w) : HalvesAt w := (tabs_sa HG hg h).1
section
variable {W : Bs} {g : Nat} {room ops : Int} {xs : List Fil}
set_option maxHeartbeats 4000000 in
theorem take_any {t : ByteArray} (b : Nat) (parts : Int) (N : Option Addr) (nn cn laid : Nat) (l : List Ev) (h0 : 0 < l.length) (hn6 : l.length ≤ 320) (hfin : Hid (∀ x ∈ l, FineE x)) (hall : Hid (∀ x ∈ l, formB x parts = true)) (hn : xs.length ≤ 1000) (lo : Nat) (x : Fil) (w : World)
  (hs : Hid (SA W g room false 0 ops xs w)) (ht : Hid (There xs t lo x)) (hx : Hid (x.l = runB l)) (h : Hid (0 ≤ ops ∧ ops < 1000000000)) (HR : Hid (RunsAt9 w b g parts N nn cn laid)) (HG : Hid (TabsAt W.b)) (hg : W.heap.size ≤ g) :
  Calls Tryz.prog 47 #[.pointer (some ⟨b, 0, none⟩), .string t] w fun e w' => ∃ L m c, e = .returned (.tuple #[.slice L m c, .int .i64 0]) ∧ m = l.length ∧ m ≤ c ∧ c ≤ maxLen ∧ OwnE w' w.heap.size L m c (l.map canE) ∧ KF w w' ∧ SA W g room false 0 (ops + 1) (xs.eraseIdx lo) w' := by
 have hxl : x.l.length ≤ 50000 := by rw [hx.out, runB_len]; have := evY_le l hfin.out hn6; omega
 have HRD := Lib.hid (read_A hn w (by omega) hs ht)
 rw [hx.out] at HRD
 have cb0 : w.cell? ⟨b, 0, none⟩ = some (.pointer (some ⟨g, 0, none⟩)) := by rw [cell_of_row _ _ _ _ _ _ HR.out]; rfl
 obtain ⟨z, hz⟩ : ∃ z, z = (runB l).length := ⟨_, rfl⟩
 have HZ := Lib.hid hz
 rw [← hz] at HRD
 have HOP : Hid (Op1 0 0 0 false) := Lib.hid ⟨.inl ⟨rfl, rfl, rfl, rfl⟩⟩
 clear hxl hz
 go_enter Tryz.func47, Tryz.ntmps47
 go_upto_region 4 with (go_at_call 61; (with_reducible refine HRD.out.mono ?_); rintro e w2 ⟨B, c, rfl, h1, h2⟩; have HO2 := Lib.hid h1; have HB2 := Lib.hid h2; clear h1 h2)
 have HR2 := Lib.hid (HR.out.keep HB2.out)
 have HS2 := Lib.hid (hs.out.next HB2.out)
 have HG2 := Lib.hid (halves_sa HG.out hg HS2.out)
 have cb1 : w2.cell? ⟨b, 1, none⟩ = some (.int .i64 parts) := by rw [cell_of_row _ _ _ _ _ _ HR2.out]; rfl
 have HRR := Lib.hid (readRun_any B z c l parts h0 hn6 hfin hall HZ HO2.out.caps.1 HO2.out.caps.2 w2 (Lib.hid HO2.out.byAt) HG2)
 go_upto_region 7 with (go_at_call 62; (with_reducible refine HRR.out.mono ?_); rintro e w3 ⟨L, m, c3, rfl, h1, h2, h3, h4, h5⟩; have HM := Lib.hid h1; have HC3 := Lib.hid (And.intro h2 h3); have HO3 := Lib.hid h4; have HB3 := Lib.hid h5; clear h1 h2 h3 h4 h5)
 have HR3 := Lib.hid (HR2.out.keep HB3.out)
 have HS3 := Lib.hid (HS2.out.next HB3.out)
 have cb2 : w3.cell? ⟨b, 0, none⟩ = some (.pointer (some ⟨g, 0, none⟩)) := by rw [cell_of_row _ _ _ _ _ _ HR3.out]; rfl
 have HD := Lib.hid (delete_K (armed' := 0) hn lo x w3 HS3 ht HOP h (Lib.hid (by omega)))
 go_wp2_with (go_at_call 36; (with_reducible refine HD.out.mono ?_); rintro e w4 ⟨rfl, h1, h2⟩; have HK4 := Lib.hid h1; have HS4 := Lib.hid h2; clear h1 h2)
 exact bodyPost_ret (results_tmp2O rfl _ _ _) rfl ⟨L, m, c3, rfl, HM.out, HC3.out.1, HC3.out.2, ownE_kf (HO3.out.less HB2.out.size) HK4.out, (KF.of_below (below_to HB2.out HB3.out)).trans HK4.out, HS4.out⟩
end
section
variable {W : Bs} {g f fcap : Nat} {room armed ops : Int} {off : Bool} {r : List Value} {xs : List Fil} {w w' : World}
set_option maxHeartbeats 4000000 in
theorem delete_fall {t : ByteArray} {lo : Nat} {x : Fil} {armed' : Int} (hn : xs.length ≤ 1000) (w : World) (hs : Hid (SN W g room false armed ops f fcap r xs w)) (ht : Hid (There xs t lo x)) (ho : Hid (Op1 armed 9 armed' true)) (h : Hid (0 ≤ ops ∧ ops < 1000000000)) (ha : Hid (armed < 1000000000)) :
  Calls Tryz.prog 36 #[.pointer (some ⟨g, 0, none⟩), .string t] w fun e w' => e = .returned (.int .i64 9) ∧ SN W g room true armed' (ops + 1) f fcap r xs w' := by
 go_enter Tryz.func36, Tryz.ntmps36
 go_wp2_with (first
  | (go_at_call 50; refine (place_yes hn _ hs ht).mono ?_; rintro z w1 ⟨rfl, hb⟩; have HS1 := Lib.hid (hs.out.next hb); clear hb)
  | (go_at_call 28; refine (operate_N _ HS1.out ho.out h.out ha.out).mono ?_; rintro z w2 ⟨rfl, h2⟩; have HS := Lib.hid h2; clear h2))
 go_ret
 exact ⟨rfl, HS.out⟩
theorem delete_off {t : ByteArray} {armed' : Int} (hn : xs.length ≤ 1000) (lo : Nat) (x : Fil) (w : World) (hs : Hid (SA W g room false armed ops xs w)) (ht : Hid (There xs t lo x)) (ho : Hid (Op1 armed 9 armed' true)) (h : Hid (0 ≤ ops ∧ ops < 1000000000)) (ha : Hid (armed < 1000000000)) :
  Calls Tryz.prog 36 #[.pointer (some ⟨g, 0, none⟩), .string t] w fun e w' => e = .returned (.int .i64 9) ∧ KF w w' ∧ SA W g room true armed' (ops + 1) xs w' := by
 have hk0 := hs.out.kf
 rcases hs.out.now with ⟨rfl, h0⟩ | ⟨f, fcap, r, hN⟩
 ·have := ht.out.get; simp at this
 ·refine (delete_fall hn w (Lib.hid hN) ht ho h ha).mono ?_
  rintro e w' ⟨rfl, h2⟩
  have h3 : SA ⟨W.b, w⟩ g room true armed' (ops + 1) xs w' := .inr ⟨f, fcap, r, h2⟩
  exact ⟨rfl, h3.kf, h3.seen W.v (hk0.trans h3.kf)⟩
end
def runT (s : ByteArray) : Bool := Lib.hasPrefix s.data.toList ({ data := #[114, 117, 110, 46] } : ByteArray).data.toList
structure Nms (xs : List Fil) : Prop where
 rises : Rises xs
 nm : ∀ x ∈ xs, runT x.name = true ∧ x.name.size ≤ 2000 ∧ formK x.name = true
 len : xs.length ≤ 800
def SZ (W : Bs) (g : Nat) (room : Int) (z : Bool) (ops : Int) (xs : List Fil) (w : World) : Prop := ∃ armed : Int, (0 ≤ armed ∧ armed < 1000000000 ∧ (z = true → armed = 0)) ∧ SA W g room false armed ops xs w
def Bad (W : World) (g : Nat) (room : Int) (z : Bool) (F : Prop) (e : Int) (w' : World) : Prop :=
 ∃ (off : Bool) (armed ops : Int) (xs : List Fil), ((e = 9 ∧ off = true ∧ z = false) ∨ (e = 10 ∧ off = false ∧ ¬ F)) ∧ Nms xs ∧ (0 ≤ ops ∧ ops < 900000000) ∧ (0 ≤ armed ∧ armed < 1000000000 ∧ (z = true → armed = 0)) ∧ SA ⟨W, w'⟩ g room off armed ops xs w'
section
variable {W : Bs} {g : Nat} {room ops : Int} {z : Bool} {xs : List Fil} {w w' : World}
theorem SZ.next (h : SZ W g room z ops xs w) (hb : Below w.heap.size w w') : SZ W g room z ops xs w' := by
 obtain ⟨a, h1, h2⟩ := h; exact ⟨a, h1, h2.next hb⟩
theorem SZ.seen (h : SZ W g room z ops xs w) (v : World) (hv : KF v w) : SZ ⟨W.b, v⟩ g room z ops xs w := by
 obtain ⟨a, h1, h2⟩ := h; exact ⟨a, h1, h2.seen v hv⟩
theorem SZ.below (h : SZ W g room z ops xs w) : W.grownBy w (some g) := by obtain ⟨a, h1, h2⟩ := h; exact h2.below
theorem SZ.kf (h : SZ W g room z ops xs w) : KF W.v w := h.below.kf
theorem SZ.now (h : SZ W g room z ops xs w) : SZ ⟨W.b, w⟩ g room z ops xs w := h.seen w (KF.refl w)
theorem Bad.e_pos {Wb : World} {F : Prop} {e : Int} (h : Bad Wb g room z F e w) : e = 9 ∨ e = 10 := by
 obtain ⟨_, _, _, _, h1, -⟩ := h
 exact h1.elim (fun h => .inl h.1) (fun h => .inr h.1)
theorem Bad.next {Wb : World} {F : Prop} {e : Int} (h : Bad Wb g room z F e w) (hb : Below w.heap.size w w') : Bad Wb g room z F e w' := by
 obtain ⟨off, a, o, ys, h1, h2, h3, h4, h5⟩ := h
 exact ⟨off, a, o, ys, h1, h2, h3, h4, (h5.next hb).now⟩
theorem Nms.erase (h : Nms xs) {lo : Nat} {x : Fil} {t : ByteArray} (hT : There xs t lo x) : Nms (xs.eraseIdx lo) :=
 ⟨(erase_facts h.rises hT).1, fun y hy => h.nm y (List.mem_of_mem_eraseIdx hy), Nat.le_trans (List.length_eraseIdx_le ..) h.len⟩
theorem AppRel.mem {t : ByteArray} {m : List Nat} {ys : List Fil} (h : AppRel xs t m ys) {y : Fil} (hy : y ∈ ys) : y.name = t ∨ ∃ x ∈ xs, x.name = y.name := by
 rcases h with ⟨lo, x, A', cap', hT, rfl⟩ | ⟨lo, A', cap', hp, hno, rfl⟩
 ·rcases List.mem_or_eq_of_mem_set hy with h | rfl
  ·exact .inr ⟨y, h, rfl⟩
  ·exact .inl (ck_eq hT.eq)
 ·unfold ins at hy
  rw [List.mem_append, List.mem_cons] at hy
  rcases hy with h | rfl | h
  ·exact .inr ⟨y, List.mem_of_mem_take h, rfl⟩
  ·exact .inl rfl
  ·exact .inr ⟨y, List.mem_of_mem_drop h, rfl⟩
theorem Nms.app (h : Nms xs) {t : ByteArray} {m : List Nat} {ys : List Fil} (ha : AppRel xs t m ys) (hl : xs.length < 800) (ht : runT t = true ∧ t.size ≤ 2000 ∧ formK t = true) : Nms ys := by
 have hf := ha.facts h.rises
 refine ⟨hf.1, fun y hy => ?_, by have := hf.2.2.2.1; omega⟩
 rcases ha.mem hy with e | ⟨x, hx, e⟩
 ·rw [e]; exact ht
 ·rw [← e]; exact h.nm x hx
theorem delete_Z {t : ByteArray} (F : Prop) (hN : Hid (Nms xs)) (lo : Nat) (x : Fil) (w : World) (hs : Hid (SZ W g room z ops xs w)) (ht : Hid (There xs t lo x)) (h : Hid (0 ≤ ops ∧ ops < 850000000)) :
  Calls Tryz.prog 36 #[.pointer (some ⟨g, 0, none⟩), .string t] w fun v w' => ∃ e : Int, v = .returned (.int .i64 e) ∧ KF w w' ∧ ((e = 0 ∧ SZ W g room z (ops + 1) (xs.eraseIdx lo) w') ∨ Bad W.b g room z F e w') := by
 obtain ⟨a, ha, hS⟩ := hs.out
 have hl : xs.length ≤ 1000 := by have := hN.out.len; omega
 have hop : Hid (0 ≤ ops ∧ ops < 1000000000) := Lib.hid (by have := h.out; omega)
 rcases Int.lt_trichotomy a 1 with h1 | h1 | h1
 ·have h0 : a = 0 := by omega
  subst h0
  refine (delete_K (armed' := 0) hl lo x w (Lib.hid hS) ht (Lib.hid ⟨.inl ⟨rfl, rfl, rfl, rfl⟩⟩) hop (Lib.hid (by omega))).mono ?_
  rintro v w' ⟨rfl, hk, h2⟩
  exact ⟨0, rfl, hk, .inl ⟨rfl, 0, ⟨by omega, by omega, fun _ => rfl⟩, h2⟩⟩
 ·subst h1
  refine (delete_off (armed' := 0) hl lo x w (Lib.hid hS) ht (Lib.hid ⟨.inr (.inr ⟨rfl, rfl, rfl, rfl⟩)⟩) hop (Lib.hid (by omega))).mono ?_
  rintro v w' ⟨rfl, hk, h2⟩
  refine ⟨9, rfl, hk, .inr ⟨true, 0, ops + 1, xs, .inl ⟨rfl, rfl, ?_⟩, hN.out, by have := h.out; omega, ⟨by omega, by omega, fun _ => rfl⟩, h2.now⟩⟩
  cases z with
  | false => rfl
  | true => have := ha.2.2 rfl; omega
 ·refine (delete_K (armed' := a - 1) hl lo x w (Lib.hid hS) ht (Lib.hid ⟨.inr (.inl ⟨by omega, rfl, rfl, rfl⟩)⟩) hop (Lib.hid (by omega))).mono ?_
  rintro v w' ⟨rfl, hk, h2⟩
  exact ⟨0, rfl, hk, .inl ⟨rfl, a - 1, ⟨by omega, by omega, fun hz => by have := ha.2.2 hz; omega⟩, h2⟩⟩
theorem append_Z {t : ByteArray} (F : Prop) (hN : Hid (Nms xs)) (hx : xs.length < 500) (ht : Hid (runT t = true ∧ t.size ≤ 2000 ∧ formK t = true)) (w : World) (hs : Hid (SZ W g room z ops xs w)) (h : Hid (0 ≤ ops ∧ ops < 850000000))
  (B : Nat) (p : Option Addr) (n c : Nat) (m : List Nat) (hp : Hid (OwnS w B p n c m)) (hroom : room ≤ 16777216) (hr0 : 0 ≤ room) (hsum : (sumN xs : Int) ≤ 16777216) (hF : F → (n : Int) ≤ room - (sumN xs : Nat)) :
  Calls Tryz.prog 12 #[.pointer (some ⟨g, 0, none⟩), .string t, .slice p n c] w fun v w' => ∃ e : Int, v = .returned (.int .i64 e) ∧ KF w w' ∧ ((e = 0 ∧ (n : Int) ≤ room - (sumN xs : Nat) ∧ ∃ ys, AppRel xs t m ys ∧ SZ W g room z (ops + 1) ys w') ∨ Bad W.b g room z F e w') := by
 obtain ⟨a, ha, hS⟩ := hs.out
 have hts : t.size ≤ 281474976710656 := by have := ht.out.2.1; omega
 have hop : Hid (0 ≤ ops ∧ ops < 1000000000) := Lib.hid (by have := h.out; omega)
 by_cases hfit : (n : Int) ≤ room - (sumN xs : Nat)
 ·rcases Int.lt_trichotomy a 1 with h1 | h1 | h1
  ·have h0 : a = 0 := by omega
   subst h0
   refine (append_K (armed' := 0) (e := 0) (off' := false) hts ht.out.2.2 hN.out.rises hx w (Lib.hid hS) (Lib.hid ⟨.inl ⟨rfl, rfl, rfl, rfl⟩⟩) hop (Lib.hid (by omega)) B p n c m hp hroom hfit hr0).mono ?_
   rintro v w' ⟨rfl, hk, ys, h2, h3⟩
   exact ⟨0, rfl, hk, .inl ⟨rfl, hfit, ys, h2, 0, ⟨by omega, by omega, fun _ => rfl⟩, h3⟩⟩
  ·subst h1
   refine (append_K (armed' := 0) (e := 9) (off' := true) hts ht.out.2.2 hN.out.rises hx w (Lib.hid hS) (Lib.hid ⟨.inr (.inr ⟨rfl, rfl, rfl, rfl⟩)⟩) hop (Lib.hid (by omega)) B p n c m hp hroom hfit hr0).mono ?_
   rintro v w' ⟨rfl, hk, ys, h2, h3⟩
   refine ⟨9, rfl, hk, .inr ⟨true, 0, ops + 1, ys, .inl ⟨rfl, rfl, ?_⟩, hN.out.app h2 (by omega) ht.out, by have := h.out; omega, ⟨by omega, by omega, fun _ => rfl⟩, h3.now⟩⟩
   cases z with
   | false => rfl
   | true => have := ha.2.2 rfl; omega
  ·refine (append_K (armed' := a - 1) (e := 0) (off' := false) hts ht.out.2.2 hN.out.rises hx w (Lib.hid hS) (Lib.hid ⟨.inr (.inl ⟨by omega, rfl, rfl, rfl⟩)⟩) hop (Lib.hid (by omega)) B p n c m hp hroom hfit hr0).mono ?_
   rintro v w' ⟨rfl, hk, ys, h2, h3⟩
   exact ⟨0, rfl, hk, .inl ⟨rfl, hfit, ys, h2, a - 1, ⟨by omega, by omega, fun hz => by have := ha.2.2 hz; omega⟩, h3⟩⟩
 ·refine (append_full hts ht.out.2.2 (by omega) (by omega) (placeOf xs t) (Lib.hid (hN.out.rises.place t)) w (Lib.hid hS) p n c hroom (by omega) hr0).mono ?_
  rintro v w' ⟨rfl, hb⟩
  exact ⟨10, rfl, KF.of_below hb, .inr ⟨false, a, ops, xs, .inr ⟨rfl, rfl, fun hh => hfit (hF hh)⟩, hN.out, by have := h.out; omega, ha, (hS.next hb).now⟩⟩
end
theorem tabs_sz {W : Bs} {g : Nat} {room ops : Int} {z : Bool} {xs : List Fil} {w : World} (HG : TabsAt W.b) (hg : W.heap.size ≤ g) (h : SZ W g room z ops xs w) : TabsAt w := by
 obtain ⟨a, -, h⟩ := h; exact tabs_sa HG hg h
section
variable {W : Bs} {g : Nat} {room ops : Int} {pz : Bool} {xs : List Fil}
set_option maxHeartbeats 4000000 in
theorem take_Z {t : ByteArray} (b : Nat) (parts : Int) (N : Option Addr) (nn cn laid : Nat) (l : List Ev) (h0 : 0 < l.length) (hn6 : l.length ≤ 320) (hfin : Hid (∀ x ∈ l, FineE x)) (hall : Hid (∀ x ∈ l, formB x parts = true)) (F : Prop) (hN : Hid (Nms xs)) (lo : Nat) (x : Fil) (w : World)
  (hs : Hid (SZ W g room pz ops xs w)) (ht : Hid (There xs t lo x)) (hx : Hid (x.l = runB l)) (h : Hid (0 ≤ ops ∧ ops < 850000000)) (HR : Hid (RunsAt9 w b g parts N nn cn laid)) (HG : Hid (TabsAt W.b)) (hg : W.heap.size ≤ g) :
  Calls Tryz.prog 47 #[.pointer (some ⟨b, 0, none⟩), .string t] w fun e w' => ∃ (L : Option Addr) (m c : Nat) (x : Int), e = .returned (.tuple #[.slice L m c, .int .i64 x]) ∧ KF w w' ∧ ((x = 0 ∧ m = l.length ∧ m ≤ c ∧ c ≤ maxLen ∧ OwnE w' w.heap.size L m c (l.map canE) ∧ SZ W g room pz (ops + 1) (xs.eraseIdx lo) w') ∨ Bad W.b g room pz F x w') := by
 have hn : xs.length ≤ 1000 := by have := hN.out.len; omega
 obtain ⟨a, ha, hSA⟩ := hs.out
 have hxl : x.l.length ≤ 50000 := by rw [hx.out, runB_len]; have := evY_le l hfin.out hn6; omega
 have HRD := Lib.hid (read_A hn w (by omega) (Lib.hid hSA) ht)
 rw [hx.out] at HRD
 have cb0 : w.cell? ⟨b, 0, none⟩ = some (.pointer (some ⟨g, 0, none⟩)) := by rw [cell_of_row _ _ _ _ _ _ HR.out]; rfl
 obtain ⟨z, hz⟩ : ∃ z, z = (runB l).length := ⟨_, rfl⟩
 have HZ := Lib.hid hz
 rw [← hz] at HRD
 have HSA := Lib.hid hSA
 clear hxl hz hSA
 go_enter Tryz.func47, Tryz.ntmps47
 go_upto_region 4 with (go_at_call 61; (with_reducible refine HRD.out.mono ?_); rintro e w2 ⟨B, c, rfl, h1, h2⟩; have HO2 := Lib.hid h1; have HB2 := Lib.hid h2; clear h1 h2)
 have HR2 := Lib.hid (HR.out.keep HB2.out)
 have HS2 := Lib.hid (hs.out.next HB2.out)
 have HG2 := Lib.hid (halves_sa HG.out hg (HSA.out.next HB2.out))
 have cb1 : w2.cell? ⟨b, 1, none⟩ = some (.int .i64 parts) := by rw [cell_of_row _ _ _ _ _ _ HR2.out]; rfl
 have HRR := Lib.hid (readRun_any B z c l parts h0 hn6 hfin hall HZ HO2.out.caps.1 HO2.out.caps.2 w2 (Lib.hid HO2.out.byAt) HG2)
 go_upto_region 7 with (go_at_call 62; (with_reducible refine HRR.out.mono ?_); rintro e w3 ⟨L, m, c3, rfl, h1, h2, h3, h4, h5⟩; have HM := Lib.hid h1; have HC3 := Lib.hid (And.intro h2 h3); have HO3 := Lib.hid h4; have HB3 := Lib.hid h5; clear h1 h2 h3 h4 h5)
 have HR3 := Lib.hid (HR2.out.keep HB3.out)
 have HS3 := Lib.hid (HS2.out.next HB3.out)
 have cb2 : w3.cell? ⟨b, 0, none⟩ = some (.pointer (some ⟨g, 0, none⟩)) := by rw [cell_of_row _ _ _ _ _ _ HR3.out]; rfl
 have HD := Lib.hid (delete_Z F hN lo x w3 HS3 ht h)
 go_wp2_with (go_at_call 36; (with_reducible refine HD.out.mono ?_); rintro v w4 ⟨e, rfl, h1, h2⟩; have HK4 := Lib.hid h1; have HS4 := Lib.hid h2; clear h1 h2)
 exact bodyPost_ret (results_tmp2O rfl _ _ _) rfl ⟨L, m, c3, e, rfl, (KF.of_below (below_to HB2.out HB3.out)).trans HK4.out, HS4.out.imp (fun h => ⟨h.1, HM.out, HC3.out.1, HC3.out.2, ownE_kf (HO3.out.less HB2.out.size) HK4.out, h.2⟩) id⟩
end
end Go.Proofs.YtjldamkmdkaiiaaGreatDoor
namespace Go.Proofs.YtjldamkmdkaiiaaGreatDoor
open Go.ChangeShapes Go.WideShapes Go.ChangeAt Go.WideElems Go.RowKit
theorem Tryz.own : ownKnob Tryz.prog.godebug = none := by kernel_rfl
theorem Tryz.laidOut : laidOutB Tryz.prog = true := by kernel_rfl
section
variable {H : Type} {enc : TypeId × Value → H} {P : Program}
theorem trodAll_keep {W W' : World} {sp : Nat → Bool} (hl : laidOutB P = true) (hs : ∀ x : MemPlace, x.block < W.heap.size → W.sameAt W' x) : ∀ (ts : List TypeId) (vs : List Value) (ds : List (DataW H)) (ps : List MemPlace),
  (∀ t, t ∈ ts → P.readableRec t = true ∧ t < P.types.size) → DataW.TrodAll enc P W 0 (fun _ => true) true ts vs ds ps → (∀ x, x ∈ ps → x.block < W.heap.size) → (∀ x, x ∈ ps → sp x.block = true) →
  DataW.TrodAll enc P W' 0 sp true ts vs ds ps
 | [], [], [], _, _, h, _, _ => h
 | t :: ts, v :: vs, d :: ds, ps, hr, ⟨p, q, hd, hrest, he⟩, hlt, hsp => by
  subst he
  refine ⟨p, q, ?_, trodAll_keep hl hs ts vs ds q (fun t ht => hr t (by simp [ht])) hrest (fun x hx => hlt x (by simp [hx])) (fun x hx => hsp x (by simp [hx])), rfl⟩
  exact WideElems.Trod_stays hl (hr t (by simp)).1 (hr t (by simp)).2 hd (fun x hx => hs x (hlt x (by simp [hx]))) (fun x hx => hsp x (by simp [hx]))
 | [], [], _ :: _, _, _, h, _, _ => h.elim
 | [], _ :: _, _, _, _, h, _, _ => h.elim
 | _ :: _, [], _, _, _, h, _, _ => h.elim
 | _ :: _, _ :: _, [], _, _, h, _, _ => h.elim
theorem post_law {f : Func} {s : ChangeSpec} {W W' : World} {args : Array Value} {ds : List (DataW H)} {before : List MemPlace} {tb : TypeId} (hl : laidOutB P = true)
  (hv : s.vars = []) (hW : DataW.Whole enc P f.params.toList s.vars false W args.toList ds [] before)
  (hrec : ∀ t, t ∈ f.params.toList → P.readableRec t = true ∧ t < P.types.size)
  (hres : (s.fn H ds).results = [.lit (.bool true)]) (hargs : (s.fn H ds).args = ds) (hvs : (s.fn H ds).vars = [])
  (hrt : f.resultTypes = #[tb]) (htb : P.underlying tb = some .bool) (hb : Below W.heap.size W W') : s.post enc P f false true false false W args (.bool true) W' := by
 have hlt : ∀ x, x ∈ before → x.block < W.heap.size := fun x hx => hW.lt x hx
 have hW2 := hW
 obtain ⟨p, q, hA, hV, rfl, -, -⟩ := hW2
 have hq : q = [] := by rw [hv] at hV; exact hV
 subst hq
 refine ⟨ds, [], p ++ [], [], p, [], hW, ?_, ?_, ?_, hb.frame _, fun h => by cases h⟩
 ·rw [List.append_nil, hres, hrt]
  exact trodAll_mk1 (shut_bool htb true)
 ·rw [List.append_nil, hargs]
  exact trodAll_keep hl (fun x hx => hb.same hx) _ _ _ _ hrec hA (fun x hx => hlt x (by simp [hx])) (fun x hx => by simpa using hlt x (by simp [hx]))
 ·rw [List.append_nil, hv, hvs]; rfl
end
theorem gHalves : Tryz.prog.globalNamed "headrace/page.halves" = some 2 := by kernel_rfl
theorem tHalves : (Tryz.prog.globals[2]?).map (·.type) = some 173 := by kernel_rfl
def laidHalves {H : Type} : List (String × DataW H) := [("headrace/page.halves", Rows.laid_headrace_page_halves)]
theorem laid_parts (i : Nat) (hi : i < 16) : ∃ parts : List (DataW Unit), (Rows.laid_headrace_page_halves : DataW Unit) = .agg parts ∧ parts[i]? = some (.lit (.int .u32 (Pg.half i : Nat))) := by
 refine ⟨_, rfl, ?_⟩
 exact match i, hi with
 | 0, _ => rfl
 | 1, _ => rfl
 | 2, _ => rfl
 | 3, _ => rfl
 | 4, _ => rfl
 | 5, _ => rfl
 | 6, _ => rfl
 | 7, _ => rfl
 | 8, _ => rfl
 | 9, _ => rfl
 | 10, _ => rfl
 | 11, _ => rfl
 | 12, _ => rfl
 | 13, _ => rfl
 | 14, _ => rfl
 | 15, _ => rfl
 | n + 16, h => absurd h (by omega)
theorem of_laid {W : World} (h : laidMetH Tryz.prog laidHalves W) : HalvesAt W := by
 rw [MakeChecks.laidMetH_plain _ _ _ (by kernel_rfl)] at h
 obtain ⟨ps, ⟨g0, t0, cs0, f0, p0, q0, hg0, ht0, hv0, hd0, _, _⟩, _, _⟩ := h
 obtain rfl := Option.some.inj (gHalves.symm.trans hg0)
 obtain rfl := Option.some.inj (tHalves.symm.trans ht0)
 obtain ⟨xs, m1, rfl, hx1, hlen, hn3, hel⟩ := DataW.trod_array Tryz.underlying173 hd0
 have c3 : Tryz.prog.cellsOf 148 = 1 := by kernel_rfl
 intro i hi
 obtain ⟨parts, hp, hpi⟩ := laid_parts i hi
 rw [hp] at hx1
 simp only [Prod.mk.injEq, DataW.agg.injEq] at hx1
 have hxi : xs[i]? = some (xs[i]'(by omega)) := List.getElem?_eq_getElem (by omega)
 have hi1 := hel i hi
 rw [c3, Nat.mul_one, hxi] at hi1
 obtain ⟨k, e1, e2, _⟩ := DataW.trod_int Tryz.underlying148 hi1
 have hk : k = (Pg.half i : Nat) := by
  rw [hx1.1, List.getElem?_map, hxi] at hpi
  simp only [Option.map_some, Option.some.injEq] at hpi
  rw [e2] at hpi
  simpa using hpi
 subst hk
 have hc := World.var?_cell hg0 hv0 i
 rw [hc, ← Array.getElem?_toList]
 have h2 : (cs0.toList.drop i)[0]? = some (.int .u32 (Pg.half i : Nat)) := by
  have h3 : ((cs0.toList.drop i).take 1)[0]? = some (.int .u32 (Pg.half i : Nat)) := by rw [e1]; rfl
  rw [List.getElem?_take] at h3
  simpa using h3
 rw [List.getElem?_drop] at h2
 simpa using h2
end Go.Proofs.YtjldamkmdkaiiaaGreatDoor
namespace Go.Proofs.YtjldamkmdkaiiaaGreatDoor
open Go.ChangeShapes Go.WideShapes Go.ChangeAt Go.RowKit
section
variable {H : Type} {enc : TypeId × Value → H} {P : Program}
theorem trod_float' {w : World} {base : Nat} {spare : Nat → Bool} {held : Bool} {fuel : Nat} {cs : List Value} {x : DataW H × List MemPlace} {t : TypeId} (ht : P.underlying t = some (.float .f64)) (h : DataW.trod enc P w base spare held fuel t cs = some x) :
  ∃ b, cs = [.float .f64 b] ∧ (Lit.float .f64 b).wf = true := by
 cases fuel with
 | zero => simp [DataW.trod] at h
 | succ n =>
  unfold DataW.trod at h
  rw [ht] at h
  split at h <;> simp_all
end
section
variable {H : Type} {enc : TypeId × Value → H} {W : World} {base : Nat} {spare : Nat → Bool} {held : Bool}
theorem ev_cells {fuel : Nat} {cs : List Value} {y : DataW H × List MemPlace} (h : DataW.trod enc Tryz.prog W base spare held fuel 51 cs = some y) : ∃ x : Ev, cs = x.cells ∧ x.val < 18446744073709551616 := by
 obtain ⟨xs, n, -, -, hl, hxl, hg⟩ := DataW.trod_struct Tryz.underlying51 h
 have hC : Tryz.prog.cellsOf 51 = 5 := by kernel_rfl
 have hx5 : xs.length = 5 := hxl
 rw [hC] at hl
 have one : ∀ (i : Nat) (c : Value) (f : Field), cs[i]? = some c → i < 5 → f.offset = i → Tryz.prog.cellsOf f.type = 1 → DataW.trod enc Tryz.prog W base spare held n f.type ((cs.drop f.offset).take (Tryz.prog.cellsOf f.type)) = xs[i]? → ∃ y, DataW.trod enc Tryz.prog W base spare held n f.type [c] = some y := by
  intro i c f hc hi ho hk hf
  rw [ho, hk] at hf
  have e : (cs.drop i).take 1 = [c] := by
   obtain ⟨h1, h2⟩ := List.getElem?_eq_some_iff.1 hc
   rw [List.drop_eq_getElem_cons h1, h2]; rfl
  rw [e, List.getElem?_eq_getElem (by omega)] at hf
  exact ⟨_, hf⟩
 match cs, hl with
 | [c0, c1, c2, c3, c4], _ =>
  obtain ⟨y0, t0⟩ := one 0 c0 _ rfl (by decide) rfl (by kernel_rfl) (hg 0 _ rfl)
  obtain ⟨y1, t1⟩ := one 1 c1 _ rfl (by decide) rfl (by kernel_rfl) (hg 1 _ rfl)
  obtain ⟨y2, t2⟩ := one 2 c2 _ rfl (by decide) rfl (by kernel_rfl) (hg 2 _ rfl)
  obtain ⟨y3, t3⟩ := one 3 c3 _ rfl (by decide) rfl (by kernel_rfl) (hg 3 _ rfl)
  obtain ⟨y4, t4⟩ := one 4 c4 _ rfl (by decide) rfl (by kernel_rfl) (hg 4 _ rfl)
  obtain ⟨n0, e0, -, w0⟩ := DataW.trod_int (k := .u64) Tryz.underlying48 t0
  obtain ⟨n1, e1, -, -⟩ := DataW.trod_int (k := .i64) Tryz.underlying3 t1
  obtain ⟨n2, e2, -, -⟩ := DataW.trod_int (k := .i64) Tryz.underlying2 t2
  obtain ⟨s3, e3, -, -⟩ := DataW.trod_string Tryz.underlying9 t3
  obtain ⟨b4, e4, w4⟩ := trod_float' Tryz.underlying49 t4
  cases e0; cases e1; cases e2; cases e3; cases e4
  have h0 : 0 ≤ n0 := by
   have h : 0 ≤ n0 ∧ n0 ≤ 18446744073709551615 := by simpa [Lit.wf, IntKind.min, IntKind.max, IntKind.signed, IntKind.bits] using w0
   exact h.1
  refine ⟨⟨n0.toNat, n1, n2, s3, b4⟩, ?_, by simpa [Lit.wf] using w4⟩
  unfold Ev.cells
  rw [Int.toNat_of_nonneg h0]
end
section
variable {H : Type} {enc : TypeId × Value → H} {W : World}
theorem open_evs {b0 : Nat} {r : Reach} {v : Value} {d : DataW H} {ps : List MemPlace} (hok : Value.okWide Tryz.prog W r b0 22 v) (hd : DataW.Trod enc Tryz.prog W 0 (fun _ => true) true 22 v d ps) :
  ∃ (a : Option Addr) (l : List Ev) (cap : Nat), v = .slice a l.length cap ∧ l.length ≤ cap ∧ cap ≤ maxLen ∧ (a = none → l.length = 0 ∧ cap = 0) ∧ (∀ x, a = some x → x.spot = none) ∧ (∀ x ∈ l, x.val < 18446744073709551616) ∧ EvAt W a l := by
 have hu := Tryz.underlying22
 have hC : Tryz.prog.cellsOf 51 = 5 := by kernel_rfl
 obtain ⟨fuel, hf⟩ := hd
 obtain ⟨a, len, cap, rfl⟩ := okWide_slice hu hok
 rcases Deep.open_slice hu hf with ⟨hcs, -⟩ | ⟨a', len', cap', m, n, D, Pl, hcs, -, hl, hm, hmm, hx, hcell⟩
 ·simp [Value.cells] at hcs
  obtain ⟨rfl, rfl, rfl⟩ := hcs
  exact ⟨none, [], 0, rfl, Nat.le_refl _, by unfold maxLen; omega, fun _ => ⟨rfl, rfl⟩, fun x hx => (by cases hx), fun x hx => (by cases hx), fun k x hx => by simp [evs] at hx⟩
 ·simp [Value.cells] at hcs
  obtain ⟨rfl, rfl, rfl⟩ := hcs
  simp only [if_true] at hmm
  subst hmm
  have hspot : a'.spot = none := by
   simp only [Value.okWide, hu, Cell.okWide, Cell.ok] at hok
   exact hok.2.2.2.1
  obtain ⟨g, off, s⟩ := a'
  obtain rfl : s = none := hspot
  have hE : ∀ i, i < m → ∃ x : Ev, W.cells? 0 ((⟨g, off, none⟩ : Addr).add (i * 5)) 5 = some x.cells ∧ x.val < 18446744073709551616 := fun i hi => by
   obtain ⟨cs', h1, h2⟩ := hcell i hi
   rw [hC] at h1
   obtain ⟨x, rfl, hx⟩ := ev_cells h2
   exact ⟨x, h1, hx⟩
  obtain ⟨E, hE⟩ := Deep.choose_lt (α := Ev) (p := fun i x => W.cells? 0 ((⟨g, off, none⟩ : Addr).add (i * 5)) 5 = some x.cells ∧ x.val < 18446744073709551616) hE
  refine ⟨some ⟨g, off, none⟩, (List.range len).map E, m, by simp, by simpa using hl, hm, fun h => (by cases h), fun x hx => (by cases hx; rfl), fun x hx => ?_, fun k v hv => ?_⟩
  ·obtain ⟨i, hi, rfl⟩ := List.mem_map.1 hx
   exact (hE i (by have := List.mem_range.1 hi; omega)).2
  ·have hk : k < len * 5 := by
    have := (List.getElem?_eq_some_iff.1 hv).1
    rw [evs_length] at this; simpa using this
   have e := evs_get ((List.range len).map E) (k / 5) (k % 5) (by omega)
   rw [show k / 5 * 5 + k % 5 = k by omega, hv, List.getElem?_map, List.getElem?_range (by omega)] at e
   obtain ⟨h0, h1, h2⟩ := World.cells?_some (hE (k / 5) (by omega)).1
   have hg := World.cells?_block (hE (k / 5) (by omega)).1 (by decide)
   rw [Addr.add_lit] at hg
   refine ⟨g, off, rfl, hg, ?_⟩
   have h3 := h2 (k % 5) (by omega)
   rw [Addr.add_lit, Addr.add_lit, Nat.add_assoc, show k / 5 * 5 + k % 5 = k by omega] at h3
   rw [h3]; exact e.symm
end
def laidSrt {H : Type} : List (String × DataW H) := [("math/bits.deBruijn32tab", Rows.laid_math_bits_deBruijn32tab), ("math/bits.deBruijn64tab", Rows.laid_math_bits_deBruijn64tab), ("internal/strconv.uint64pow10", Rows.laid_internal_strconv_uint64pow10), ("headrace/page.halves", Rows.laid_headrace_page_halves)]
theorem door_metS (os : Os) (args : Array Value) : laidMetH Tryz.prog laidSrt ((World.doorLaid Tryz.prog 400 os).forCall (fun _ _ => 0) ⟨#[], args, []⟩).memory :=
 laidMetH_of_parts3 (fuel := 8) (laidMet_of_run' 8 (by kernel_rfl) (by kernel_rfl)) (by kernel_rfl) (by kernel_rfl)
theorem of_laidS {W : World} (h : laidMetH Tryz.prog laidSrt W) : TabsAt W := by
 rw [MakeChecks.laidMetH_plain _ _ _ (by kernel_rfl)] at h
 refine ⟨of_laid (by rw [MakeChecks.laidMetH_plain _ _ _ (by kernel_rfl)]; exact h.tail.tail.tail), ?_⟩
 exact Lib.tabIs_of_head (k := .u64) (zs := Lib.pow10Tab) (g := 3) (t := 206) (e := 48) (n := 20) (by kernel_rfl) (by kernel_rfl) Tryz.underlying206 Tryz.underlying48 (by kernel_rfl) (by kernel_rfl) h.tail.tail
end Go.Proofs.YtjldamkmdkaiiaaGreatDoor
