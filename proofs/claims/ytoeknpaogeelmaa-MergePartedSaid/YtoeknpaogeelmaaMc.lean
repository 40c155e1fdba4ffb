/-
  Layer merge: play: all games at a node and below it.
-/
import Derived.Test.YtoeknpaogeelmaaMb
import Derived.Test.YtoeknpaogeelmaaKe
set_option linter.unusedSimpArgs false
set_option linter.unusedVariables false
set_option maxRecDepth 8000
namespace Go.Proofs.Ytoeknpaogeelmaa
open Go.RowKit Go.Sort

abbrev At1 (b : Nat) : Nat → Prop := fun k => k = b
section
variable {w w' : World} {B t rb lb n cr cl win : Nat} {L : Nat → Nat} {Rs : List (List Ev)}
theorem EvAt.keptE {S : Nat → Prop} {A : Option Addr} {l : List Ev} (h : EvAt w A l) (hk : Kept S w w') (hS : ∀ a, A = some a → 0 < l.length → ¬ S a.block) : EvAt w' A l := fun j v hv => by
  obtain ⟨g, off, h2, h3, h4⟩ := h j v hv
  have h0 : 0 < l.length := by
    have := (List.getElem?_eq_some_iff.1 hv).1
    rw [evs_length] at this; omega
  exact ⟨g, off, h2, Nat.lt_of_lt_of_le h3 hk.size, (hk.cell (p := ⟨g, off + j, none⟩) h3 (hS ⟨g, off, none⟩ h2 h0)).trans h4⟩
/-- A loser written. -/
theorem TreeM.setL (h : TreeM w B t rb lb n cr cl win L Rs) (m v : Nat) (hm : m < n) : TreeM (w.setCell ⟨lb, m, none⟩ (.int .i64 (v : Int))) B t rb lb n cr cl win (upd L m v) Rs := by
  have hk : Kept (At1 lb) w (w.setCell ⟨lb, m, none⟩ (.int .i64 (v : Int))) := (Kept.refl _ _).setCell _ _ (.inl rfl)
  refine ⟨hk.heap h.row (fun e => h.tl e), h.rrow.set, h.lrow.set, fun j l hj => ?_, fun j hj => ?_, h.len, h.pos, h.few, h.small, h.caps, h.bt, h.br, h.bl, h.tr, h.tl, h.rl⟩
  · obtain ⟨A, c, h1, h2, h3, h4, h5, h6⟩ := h.runs j l hj
    exact ⟨A, c, (hk.cell (p := ⟨rb, j, none⟩) h.rrow.lt (fun e => h.rl e)).trans h1, h2, h3, h4, h5.keptE hk (fun a ha h0 e => by have h7 := h6 a ha h0; have h8 := h.bl; have e : a.block = lb := e; omega), h6⟩
  · by_cases e : j = m
    · subst e
      obtain ⟨u, hu⟩ := h.lrow.get j hj
      rw [upd_at]; exact World.cell?_setCell_same _ _ _ hu
    · rw [upd_ne _ _ e]
      exact (World.cell?_setCell_other _ _ _ _ (fun h => by injection h with h1 h2 h3; omega)).trans (h.los j hj)
end
/-- Does a node stand below another one, or is it that one? -/
def Dsc (m x : Nat) : Prop := ∃ k, m / 2 ^ k = x
theorem dsc_self (m : Nat) : Dsc m m := ⟨0, by simp⟩
theorem dsc_le {m x : Nat} (h : Dsc m x) : x ≤ m := by obtain ⟨k, rfl⟩ := h; exact Nat.div_le_self _ _
theorem dsc_cases {m x : Nat} (hx : 0 < x) : Dsc m x ↔ m = x ∨ Dsc m (2 * x) ∨ Dsc m (2 * x + 1) := by
  constructor
  · rintro ⟨k, hk⟩
    rcases k with _ | k
    · left; simpa using hk
    · right
      rw [half_pow] at hk
      rcases (show m / 2 ^ k = 2 * x ∨ m / 2 ^ k = 2 * x + 1 by omega) with h | h
      · exact .inl ⟨k, h⟩
      · exact .inr ⟨k, h⟩
  · rintro (rfl | ⟨k, hk⟩ | ⟨k, hk⟩)
    · exact dsc_self _
    · exact ⟨k + 1, by rw [half_pow, hk]; omega⟩
    · exact ⟨k + 1, by rw [half_pow, hk]; omega⟩
theorem dsc_apart {m x : Nat} (hx : 0 < x) (h1 : Dsc m (2 * x)) (h2 : Dsc m (2 * x + 1)) : False := by
  obtain ⟨k, hk⟩ := h1; obtain ⟨k', hk'⟩ := h2
  have := same_level hk hk' (by omega) (by omega) (by omega)
  omega
theorem dsc_no {x : Nat} (hx : 0 < x) : ¬ Dsc x (2 * x) ∧ ¬ Dsc x (2 * x + 1) := ⟨fun h => by have := dsc_le h; omega, fun h => by have := dsc_le h; omega⟩
/-- What play leaves. -/
def Played (B t rb lb n cr cl win : Nat) (L : Nat → Nat) (Rs : List (List Ev)) (node : Nat) (w : World) (e : Ending) (w' : World) : Prop :=
  e = .returned (.int .i64 (vw ltM (rsF Rs) n node : Nat)) ∧ ∃ L', TreeM w' B t rb lb n cr cl win L' Rs ∧ Kept (At1 lb) w w' ∧ (∀ m, 0 < m → m < n → Dsc m node → L' m = lz ltM (rsF Rs) n m) ∧ (∀ m, ¬ Dsc m node → L' m = L m)
set_option maxHeartbeats 4000000 in
theorem play_any (B t rb lb n cr cl win : Nat) (Rs : List (List Ev)) : ∀ (d node : Nat) (L : Nat → Nat) (w : World), 2 * n - node ≤ d → 0 < node → node < 2 * n → Hid (TreeM w B t rb lb n cr cl win L Rs) →
    Calls Try.prog 18 #[.pointer (some ⟨t, 0, none⟩), .int .i64 (node : Int)] w (Played B t rb lb n cr cl win L Rs node w) := by
  intro d
  induction d with
  | zero => intro node L w h1 h2 h3; omega
  | succ d ih =>
    intro node L w hd h0 hn HT
    have c0 := HT.out.c0
    have hcr := HT.out.caps.1
    have hcr2 := HT.out.caps.2.1
    have hn16 := HT.out.few
    unfold maxLen at hcr2
    by_cases hlf : n ≤ node
    · obtain ⟨v, hv⟩ : ∃ v, v = node - n := ⟨_, rfl⟩
      have hvi : (node : Int) - (n : Int) = (v : Int) := by omega
      have HV : Hid (vw ltM (rsF Rs) n node = v) := Lib.hid (by rw [vw_leaf hlf, hv])
      clear hv
      go_enter Try.func18, Try.ntmps18
      go_wp2
      go_ret
      refine ⟨by rw [HV.out]; rfl, L, HT.out, Kept.refl _ _, fun m h1 h2 h3 => ?_, fun m _ => rfl⟩
      have := dsc_le h3; omega
    · have hlt : node < n := by omega
      obtain ⟨a, ha⟩ : ∃ a, a = 2 * node := ⟨_, rfl⟩
      obtain ⟨b, hb⟩ : ∃ b, b = 2 * node + 1 := ⟨_, rfl⟩
      have hai : 2 * (node : Int) = (a : Int) := by omega
      have hbi : (a : Int) + 1 = (b : Int) := by omega
      have HA := Lib.hid ha; have HB := Lib.hid hb
      have HPA := Lib.hid (ih a L w (by omega) (by omega) (by omega) HT)
      have HPB := Lib.hid fun L2 w2 h => ih b L2 w2 (by omega) (by omega) (by omega) h
      obtain ⟨x, hx⟩ : ∃ x, x = vw ltM (rsF Rs) n a := ⟨_, rfl⟩
      obtain ⟨y, hy⟩ : ∃ y, y = vw ltM (rsF Rs) n b := ⟨_, rfl⟩
      have hxn : x < n := by rw [hx]; exact vw_lt wkE (by omega) (by omega)
      have hyn : y < n := by rw [hy]; exact vw_lt wkE (by omega) (by omega)
      have HX := Lib.hid hx; have HY := Lib.hid hy
      obtain ⟨yx, hyx⟩ : ∃ yx, ah ltM (rsF Rs) y x = yx := ⟨_, rfl⟩
      have HYX := Lib.hid hyx
      have HVW : Hid (vw ltM (rsF Rs) n node = if yx = true then y else x) := Lib.hid (by rw [vw_node hlt h0, ← hb, ← ha, ← hx, ← hy, hyx])
      have HLZ : Hid (lz ltM (rsF Rs) n node = if yx = true then x else y) := Lib.hid (by unfold lz; rw [← hb, ← ha, ← hx, ← hy, hyx])
      have hni : (node : Int) < (n : Int) := by omega
      have hbb : b ≤ 32 := by omega
      clear hx hy hyx ha hb ih
      go_enter Try.func18, Try.ntmps18
      go_upto_region 4 with (first
        | (go_at_call 18; (with_reducible refine (HPA.out).mono ?_); rintro e w2 ⟨rfl, L2, h1, h2, h3, h4⟩; have HT2 := Lib.hid h1; have HK2 := Lib.hid h2; have H3 := Lib.hid h3; have H4 := Lib.hid h4; clear h1 h2 h3 h4; rw [← HX.out])
        | (go_at_call 18; (refine (HPB.out _ _ HT2).mono ?_); rintro e w3 ⟨rfl, L3, h1, h2, h3, h4⟩; have HT3 := Lib.hid h1; have HK3 := Lib.hid h2; have H5 := Lib.hid h3; have H6 := Lib.hid h4; clear h1 h2 h3 h4; rw [← HY.out]))
      have HAH := Lib.hid (ahead_any B t rb lb n cr cl win L3 Rs y x hyn hxn w3 HT3)
      rw [HYX.out] at HAH
      have HK23 := Lib.hid (HK2.out.trans HK3.out)
      -- what the losers are behind both
      have HL3 : Hid (∀ m, 0 < m → m < n → (Dsc m a ∨ Dsc m b) → L3 m = lz ltM (rsF Rs) n m) := Lib.hid fun m h1 h2 h3 => by
        by_cases h4 : Dsc m b
        · exact H5.out m h1 h2 h4
        · rw [H6.out m h4]
          rcases h3 with h3 | h3
          · exact H3.out m h1 h2 h3
          · exact (h4 h3).elim
      have HL3' : Hid (∀ m, ¬ Dsc m a → ¬ Dsc m b → L3 m = L m) := Lib.hid fun m h1 h2 => by rw [H6.out m h2, H4.out m h1]
      have HFIN : Hid (∀ (w9 : World) (v : Nat), lz ltM (rsF Rs) n node = v → TreeM w9 B t rb lb n cr cl win (upd L3 node v) Rs → Kept (At1 lb) w w9 →
          ∃ L', TreeM w9 B t rb lb n cr cl win L' Rs ∧ Kept (At1 lb) w w9 ∧ (∀ m, 0 < m → m < n → Dsc m node → L' m = lz ltM (rsF Rs) n m) ∧ (∀ m, ¬ Dsc m node → L' m = L m)) := Lib.hid fun w9 v hv h1 h2 => by
        refine ⟨upd L3 node v, h1, h2, fun m g1 g2 g3 => ?_, fun m g1 => ?_⟩
        · by_cases e : m = node
          · subst e; rw [upd_at, hv]
          · rw [upd_ne _ _ e]
            rcases (dsc_cases h0).1 g3 with g4 | g4 | g4
            · exact (e g4).elim
            · exact HL3.out m g1 g2 (.inl (by rw [HA.out]; exact g4))
            · exact HL3.out m g1 g2 (.inr (by rw [HB.out]; exact g4))
        · have e : m ≠ node := fun e => g1 (e ▸ dsc_self _)
          rw [upd_ne _ _ e]
          exact HL3'.out m (fun g => g1 ((dsc_cases h0).2 (.inr (.inl (by rw [← HA.out]; exact g))))) (fun g => g1 ((dsc_cases h0).2 (.inr (.inr (by rw [← HB.out]; exact g)))))
      clear HPA HPB H3 H4 H5 H6 HL3 HL3' HT2 HK2 HK3 c0
      cases yx
      · go_wp2_with (go_at_call 22; (with_reducible refine (HAH.out).mono ?_); rintro e w4 ⟨rfl, hb4⟩; have HT4 := Lib.hid (HT3.out.below hb4); have HK4 := Lib.hid (HK23.out.trans (Kept.of_below hb4)); have c2 := HT4.out.c2; have fl := HT4.out.lrow.fr node; obtain ⟨u4, cl4⟩ := HT4.out.lrow.get node (by omega); have hcl := HT4.out.caps.2.2.1; clear hb4)
        go_ret
        exact ⟨by rw [HVW.out]; rfl, HFIN.out _ y HLZ.out (HT4.out.setL node y (by omega)) (HK4.out.setCell _ _ (.inl rfl))⟩
      · go_wp2_with (go_at_call 22; (with_reducible refine (HAH.out).mono ?_); rintro e w4 ⟨rfl, hb4⟩; have HT4 := Lib.hid (HT3.out.below hb4); have HK4 := Lib.hid (HK23.out.trans (Kept.of_below hb4)); have c2 := HT4.out.c2; have fl := HT4.out.lrow.fr node; obtain ⟨u4, cl4⟩ := HT4.out.lrow.get node (by omega); have hcl := HT4.out.caps.2.2.1; clear hb4)
        go_ret
        exact ⟨by rw [HVW.out]; rfl, HFIN.out _ x HLZ.out (HT4.out.setL node x (by omega)) (HK4.out.setCell _ _ (.inl rfl))⟩
end Go.Proofs.Ytoeknpaogeelmaa
