/-
  Layer segment: the document's Wants.
-/
import Derived.Test.YtifabkbdiiolfaaGreatDoorYzsK
set_option linter.unusedSimpArgs false
set_option linter.unusedVariables false
set_option maxRecDepth 8000
namespace Go.Proofs.YtifabkbdiiolfaaGreatDoor
open Go.RowKit Go.WideShapes Col
def offIn (fa fb : Nat) (x : Ev) : Bool := decide (fa ≤ x.off) && decide (x.off < fb)
def lowIn (fy : Int) (x : Ev) : Bool := decide (x.time ≤ fy)
def highIn (fx : Int) (x : Ev) : Bool := decide (fx ≤ x.time)
def cntB (fa fb : Nat) (fx fy : Int) (r : List Ev) : Bool := r.any (offIn fa fb) && (r.any (lowIn fy) && (r.any (highIn fx) && decide (fx ≤ fy)))
def wN (fa fb : Nat) (fx fy : Int) (M : List Ev) : Nat → Nat
 | 0 => 0
 | k + 1 => wN fa fb fx fy M k + (if cntB fa fb fx fy (pcs M k) = true then 1 else 0)
theorem wN_le (fa fb : Nat) (fx fy : Int) (M : List Ev) : ∀ k, wN fa fb fx fy M k ≤ k
 | 0 => Nat.le_refl _
 | k + 1 => by have := wN_le fa fb fx fy M k; unfold wN; split <;> omega
theorem any_snoc (q : Ev → Bool) (l : List Ev) (x : Ev) (j : Nat) (h : l[j]? = some x) : (l.take (j + 1)).any q = ((l.take j).any q || q x) := by
 rw [List.take_add_one, h, Option.toList_some, List.any_append]
 simp
def RW7 (w : World) (fa fb : Nat) (fx fy : Int) (F : List Ev) (R : List Ev) (b : Nat) (u o lo hi jj : Value) (wr : World) : Prop :=
 ∃ (t m cap : Nat) (A : Option Addr), t ≤ R.length ∧ u = .slice A m cap ∧ o = .bool ((R.take t).any (offIn fa fb)) ∧ lo = .bool ((R.take t).any (lowIn fy)) ∧ hi = .bool ((R.take t).any (highIn fx)) ∧ jj = .int .i64 ((b + t : Nat) : Int) ∧ OwnE wr w.heap.size A m cap (F ++ (R.take t).filter (wantB fa fb fx fy)) ∧ m ≤ cap ∧ cap ≤ maxLen ∧ Below w.heap.size w wr
set_option maxHeartbeats 16000000 in
theorem refWants_any (A0 : Option Addr) (n c0 : Nat) (M : List Ev) (hn : Hid (n = M.length)) (hn3 : n ≤ 300) (fa fb : Nat) (fx fy : Int) (w : World) (HE : Hid (EvAt w A0 M)) :
  Calls Tryz.prog 17 #[.slice A0 n c0, .int .u64 (fa : Int), .int .u64 (fb : Int), .int .i64 fx, .int .i64 fy] w fun e w' => ∃ A m cap, e = .returned (.tuple #[.slice A m cap, .int .i64 (wN fa fb fx fy M ((n + 63) / 64) : Nat)]) ∧ OwnE w' w.heap.size A m cap (M.filter (wantB fa fb fx fy)) ∧ Below w.heap.size w w' := by
 go_enter Tryz.func17, Tryz.ntmps17
 go_wp2
 go_loopw [12, 13, 14] (fun u v z wr => ∃ (k m cap : Nat) (A : Option Addr), k ≤ (n + 63) / 64 ∧ u = .slice A m cap ∧ v = .int .i64 (wN fa fb fx fy M k : Nat) ∧ z = .int .i64 ((64 * k : Nat) : Int) ∧ OwnE wr w.heap.size A m cap ((M.take (64 * k)).filter (wantB fa fb fx fy)) ∧ m ≤ cap ∧ cap ≤ maxLen ∧ Below w.heap.size w wr) (fun _ _ z _ => 400 - (intOf z).toNat)
 case atStart => exact ⟨0, 0, 0, none, by omega, rfl, rfl, rfl, ownE_nil _ _, Nat.le_refl _, Nat.zero_le _, Below.refl _ _⟩
 case round =>
  obtain ⟨k, m, cap, A, hk, rfl, rfl, rfl, ho, hmc, hcm, hb⟩ := hrel
  have HO := Lib.hid ho; have HB := Lib.hid hb; have HMC := Lib.hid (And.intro hmc hcm)
  clear ho hb hmc hcm
  obtain ⟨b, hb⟩ : ∃ b, b = 64 * k := ⟨_, rfl⟩
  have HBK := Lib.hid hb
  have hb64 : IntKind.i64.wrap ((b : Int) + 64) = ((b + 64 : Nat) : Int) := by rw [IntKind.wrap_i64]; omega
  by_cases hlt : b < n
  ·have hkn : k < segN M := by unfold segN; have := hn.out; omega
   have hli : (b : Int) < (n : Int) := by omega
   have HTK := Lib.hid (take_pcs hkn)
   have HPG : Hid (∀ (t : Nat) (x : Ev), (pcs M k)[t]? = some x → M[b + t]? = some x) := Lib.hid fun t x hx => by rw [hb]; exact (pcs_get (stC_of hkn) hx).2
   have HPL : Hid ((pcs M k).length = min 64 (n - b)) := Lib.hid (by rw [pcs_len (by have := hn.out; omega)]; unfold lnC; rw [stC_of hkn, hn.out, hb])
   have HWN : Hid (wN fa fb fx fy M (k + 1) = wN fa fb fx fy M k + (if cntB fa fb fx fy (pcs M k) = true then 1 else 0)) := Lib.hid rfl
   have HWL : Hid (wN fa fb fx fy M k ≤ k ∧ k ≤ 5) := Lib.hid ⟨wN_le _ _ _ _ _ _, by omega⟩
   rw [← hb] at HO ⊢
   clear hb
   generalize hF : (M.take b).filter (wantB fa fb fx fy) = F at *
   have HF := Lib.hid hF
   clear hF
   generalize hR : pcs M k = R at *
   clear hR
   generalize wN fa fb fx fy M k = W7 at *
   go_wp2
   go_loopw [12, 15, 16, 17, 18] (fun u o lo hi jj wr => RW7 w fa fb fx fy F R b u o lo hi jj wr) (fun _ _ _ _ jj _ => b + R.length - (intOf jj).toNat)
   case atStart => exact ⟨0, m, cap, A, by omega, rfl, rfl, rfl, rfl, rfl, by simpa using HO.out, HMC.out.1, HMC.out.2, HB.out⟩
   case round =>
    obtain ⟨t, m', cap', A', ht, rfl, rfl, rfl, rfl, rfl, ho, hmc, hcm, hb'⟩ := hrel
    have HO' := Lib.hid ho; have HB' := Lib.hid hb'; have HMC' := Lib.hid (And.intro hmc hcm)
    have HML' : Hid (m' ≤ 364) := Lib.hid (by
     have h := ho.1
     have e : (evs (F ++ (R.take t).filter (wantB fa fb fx fy))).length = (F ++ (R.take t).filter (wantB fa fb fx fy)).length * 5 := (by simp [evs_length])
     have h2 : F.length ≤ 300 := by rw [← HF.out]; exact Nat.le_trans (List.length_filter_le _ _) (by rw [List.length_take]; omega)
     have h3 : ((R.take t).filter (wantB fa fb fx fy)).length ≤ 64 := Nat.le_trans (List.length_filter_le _ _) (by have := HPL.out; rw [List.length_take]; omega)
     rw [List.length_append] at e
     omega)
    clear ho hmc hcm hb'
    obtain ⟨z, hz⟩ : ∃ z, z = b + t := ⟨_, rfl⟩
    have HZ := Lib.hid hz
    by_cases htr : t < R.length
    ·obtain ⟨x, hx⟩ : ∃ x, R[t]? = some x := ⟨_, List.getElem?_eq_getElem htr⟩
     have hMx := HPG.out t x hx
     obtain ⟨g, off, rfl, hg, hr⟩ := evr (HE.out.keep HB'.out) (b + t) x hMx
     have HNO := Lib.hid (any_snoc (offIn fa fb) R x t hx)
     have HNL := Lib.hid (any_snoc (lowIn fy) R x t hx)
     have HNH := Lib.hid (any_snoc (highIn fx) R x t hx)
     have HNF := Lib.hid (filter_snoc (q := wantB fa fb fx fy) R x t hx)
     have hzn : (z : Int) < (n : Int) := by have := HPL.out; omega
     have hz64 : (z : Int) < ((b + 64 : Nat) : Int) := by have := HPL.out; omega
     have hz1 : IntKind.i64.wrap ((z : Int) + 1) = ((z + 1 : Nat) : Int) := by rw [IntKind.wrap_i64]; omega
     rw [← hz] at hr ⊢
     have HX := Lib.hid hr
     obtain ⟨W5, hW5⟩ : ∃ W5, W5 = wr.alloc (.cells #[.int .u64 (x.off : Int), .int .i64 x.part, .int .i64 x.time, .string x.key, .float .f64 x.val] 45) := ⟨_, rfl⟩
     obtain ⟨bx, hbx⟩ : ∃ bx, bx = wr.heap.size := ⟨_, rfl⟩
     have hb5 : Below wr.heap.size wr W5 := by rw [hW5]; exact (Below.refl _ _).alloc (Nat.le_refl _) _
     have HRX : Hid (W5.heap[bx]? = some (.cells #[.int .u64 (x.off : Int), .int .i64 x.part, .int .i64 x.time, .string x.key, .float .f64 x.val] 45 (0, 0))) := Lib.hid (by rw [hW5, hbx]; exact heap_alloc_new' wr _)
     have HB5 : Hid (Below w.heap.size w W5) := Lib.hid (below_to HB'.out hb5)
     have HO5 : Hid (OwnE W5 w.heap.size A' m' cap' (F ++ (R.take t).filter (wantB fa fb fx fy))) := Lib.hid (ownE_keep HO'.out hb5)
     have HB6 := Lib.hid (HB5.out.alloc HB5.out.size (.cells #[.int .u64 (x.off : Int), .int .i64 x.part, .int .i64 x.time, .string x.key, .float .f64 x.val] 45))
     have HO6 := Lib.hid (ownE_keep HO5.out ((Below.refl W5.heap.size W5).alloc (Nat.le_refl _) (.cells #[.int .u64 (x.off : Int), .int .i64 x.part, .int .i64 x.time, .string x.key, .float .f64 x.val] 45)))
     have hbs := HB6.out.size
     have x0 : W5.cell? ⟨bx, 0, none⟩ = some (.int .u64 (x.off : Int)) := by rw [cell_of_row _ _ _ _ _ _ HRX.out]; rfl
     have x2 : W5.cell? ⟨bx, 2, none⟩ = some (.int .i64 x.time) := by rw [cell_of_row _ _ _ _ _ _ HRX.out]; rfl
     have HW5 := Lib.hid hW5; have HBX := Lib.hid hbx
     clear hx hMx hg hr hz hW5 hbx hb5
     generalize (R.take t).any (offIn fa fb) = o7 at *
     generalize (R.take t).any (lowIn fy) = l7 at *
     generalize (R.take t).any (highIn fx) = h7 at *
     go_upto_region 13 with (first
      | (refine wpList_load_mid rfl 45 (.tmp 41) rfl g (off + z * 5) rfl [.int .u64 (x.off : Int), .int .i64 x.part, .int .i64 x.time, .string x.key, .float .f64 x.val] _ HX.out uEvent rfl (iEvent x) ?_)
      | (refine wpList_store_row rfl 45 (.tmp 19) (.tmp 42) rfl wr.heap.size #[.int .u64 (x.off : Int), .int .i64 x.part, .int .i64 x.time, .string x.key, .float .f64 x.val] rfl rfl _ _ (heap_alloc_new' _ _) (iEvS x) (sizeEvB x) (oneEvS x) ?_; rw [World.setRow_alloc_new]))
     rw [← HW5.out, ← HBX.out]
     try dsimp only
     try simp only [Act.put, List.getElem_toArray, List.getElem_cons_zero, List.getElem_cons_succ, List.setIfInBounds_toArray, List.set_cons_zero, List.set_cons_succ]
     go_cut [15] (fun s wx => s = .bool (o7 || offIn fa fb x) ∧ wx = W5)
     case first =>
      by_cases d1 : fa ≤ x.off
      ·have c1 : (fa : Int) ≤ (x.off : Int) := by omega
       by_cases d2 : x.off < fb
       ·have c2 : (x.off : Int) < (fb : Int) := by omega
        have HV : Hid (offIn fa fb x = true) := Lib.hid (by unfold offIn; simp [d1, d2])
        rcases o7 with _ | _
        all_goals
         go_wp2
         go_meet
         case rel => exact ⟨by rw [HV.out] <;> rfl, rfl⟩
       ·have c2 : ¬ ((x.off : Int) < (fb : Int)) := by omega
        have c2' : decide ((x.off : Int) < (fb : Int)) = false := by rw [decide_eq_false_iff_not]; omega
        have HV : Hid (offIn fa fb x = false) := Lib.hid (by unfold offIn; simp [d1, d2])
        rcases o7 with _ | _
        all_goals
         go_wp2
         go_meet
         case rel => exact ⟨by rw [HV.out] <;> rfl, rfl⟩
      ·have c1 : ¬ ((fa : Int) ≤ (x.off : Int)) := by omega
       have c1' : decide ((fa : Int) ≤ (x.off : Int)) = false := by rw [decide_eq_false_iff_not]; omega
       by_cases d2 : x.off < fb
       ·have c2 : (x.off : Int) < (fb : Int) := by omega
        have HV : Hid (offIn fa fb x = false) := Lib.hid (by unfold offIn; simp [d1, d2])
        rcases o7 with _ | _
        all_goals
         go_wp2
         go_meet
         case rel => exact ⟨by rw [HV.out] <;> rfl, rfl⟩
       ·have c2 : ¬ ((x.off : Int) < (fb : Int)) := by omega
        have c2' : decide ((x.off : Int) < (fb : Int)) = false := by rw [decide_eq_false_iff_not]; omega
        have HV : Hid (offIn fa fb x = false) := Lib.hid (by unfold offIn; simp [d1, d2])
        rcases o7 with _ | _
        all_goals
         go_wp2
         go_meet
         case rel => exact ⟨by rw [HV.out] <;> rfl, rfl⟩
     case rest =>
      obtain ⟨rfl, hwc⟩ := hcut
      have hwc := hwc.symm
      subst hwc
      go_upto_region 14 with fail
      go_cut [16] (fun s wx => s = .bool (l7 || lowIn fy x) ∧ wx = W5)
      case first =>
       by_cases d4 : x.time ≤ fy
       ·have c4 : x.time ≤ fy := by omega
        have HV : Hid (lowIn fy x = true) := Lib.hid (by unfold lowIn; simp [d4])
        rcases l7 with _ | _
        all_goals
         go_wp2
         go_meet
         case rel => exact ⟨by rw [HV.out] <;> rfl, rfl⟩
       ·have c4 : ¬ (x.time ≤ fy) := by omega
        have c4' : decide (x.time ≤ fy) = false := by rw [decide_eq_false_iff_not]; omega
        have HV : Hid (lowIn fy x = false) := Lib.hid (by unfold lowIn; simp [d4])
        rcases l7 with _ | _
        all_goals
         go_wp2
         go_meet
         case rel => exact ⟨by rw [HV.out] <;> rfl, rfl⟩
      case rest =>
       obtain ⟨rfl, hwc⟩ := hcut
       have hwc := hwc.symm
       subst hwc
       go_upto_region 15 with fail
       go_cut [17] (fun s wx => s = .bool (h7 || highIn fx x) ∧ wx = W5)
       case first =>
        by_cases d3 : fx ≤ x.time
        ·have c3 : fx ≤ x.time := by omega
         have HV : Hid (highIn fx x = true) := Lib.hid (by unfold highIn; simp [d3])
         rcases h7 with _ | _
         all_goals
          go_wp2
          go_meet
          case rel => exact ⟨by rw [HV.out] <;> rfl, rfl⟩
        ·have c3 : ¬ (fx ≤ x.time) := by omega
         have c3' : decide (fx ≤ x.time) = false := by rw [decide_eq_false_iff_not]; omega
         have HV : Hid (highIn fx x = false) := Lib.hid (by unfold highIn; simp [d3])
         rcases h7 with _ | _
         all_goals
          go_wp2
          go_meet
          case rel => exact ⟨by rw [HV.out] <;> rfl, rfl⟩
       case rest =>
        obtain ⟨rfl, hwc⟩ := hcut
        have hwc := hwc.symm
        subst hwc
        go_upto_region 16 with fail
        go_cut [91] (fun s wx => s = .bool (wantB fa fb fx fy x) ∧ wx = W5)
        case first =>
         by_cases d1 : fa ≤ x.off
         ·have c1 : (fa : Int) ≤ (x.off : Int) := by omega
          by_cases d2 : x.off < fb
          ·have c2 : (x.off : Int) < (fb : Int) := by omega
           by_cases d3 : fx ≤ x.time
           ·have c3 : fx ≤ x.time := by omega
            by_cases d4 : x.time ≤ fy
            ·have c4 : x.time ≤ fy := by omega
             have HV : Hid (wantB fa fb fx fy x = true) := Lib.hid (by unfold wantB; simp [d1, d2, d3, d4])
             all_goals
              go_wp2
              go_meet
              case rel => exact ⟨by rw [HV.out] <;> rfl, rfl⟩
            ·have c4 : ¬ (x.time ≤ fy) := by omega
             have c4' : decide (x.time ≤ fy) = false := by rw [decide_eq_false_iff_not]; omega
             have HV : Hid (wantB fa fb fx fy x = false) := Lib.hid (by unfold wantB; simp [d1, d2, d3, d4])
             all_goals
              go_wp2
              go_meet
              case rel => exact ⟨by rw [HV.out] <;> rfl, rfl⟩
           ·have c3 : ¬ (fx ≤ x.time) := by omega
            have c3' : decide (fx ≤ x.time) = false := by rw [decide_eq_false_iff_not]; omega
            by_cases d4 : x.time ≤ fy
            ·have c4 : x.time ≤ fy := by omega
             have HV : Hid (wantB fa fb fx fy x = false) := Lib.hid (by unfold wantB; simp [d1, d2, d3, d4])
             all_goals
              go_wp2
              go_meet
              case rel => exact ⟨by rw [HV.out] <;> rfl, rfl⟩
            ·have c4 : ¬ (x.time ≤ fy) := by omega
             have c4' : decide (x.time ≤ fy) = false := by rw [decide_eq_false_iff_not]; omega
             have HV : Hid (wantB fa fb fx fy x = false) := Lib.hid (by unfold wantB; simp [d1, d2, d3, d4])
             all_goals
              go_wp2
              go_meet
              case rel => exact ⟨by rw [HV.out] <;> rfl, rfl⟩
          ·have c2 : ¬ ((x.off : Int) < (fb : Int)) := by omega
           have c2' : decide ((x.off : Int) < (fb : Int)) = false := by rw [decide_eq_false_iff_not]; omega
           by_cases d3 : fx ≤ x.time
           ·have c3 : fx ≤ x.time := by omega
            by_cases d4 : x.time ≤ fy
            ·have c4 : x.time ≤ fy := by omega
             have HV : Hid (wantB fa fb fx fy x = false) := Lib.hid (by unfold wantB; simp [d1, d2, d3, d4])
             all_goals
              go_wp2
              go_meet
              case rel => exact ⟨by rw [HV.out] <;> rfl, rfl⟩
            ·have c4 : ¬ (x.time ≤ fy) := by omega
             have c4' : decide (x.time ≤ fy) = false := by rw [decide_eq_false_iff_not]; omega
             have HV : Hid (wantB fa fb fx fy x = false) := Lib.hid (by unfold wantB; simp [d1, d2, d3, d4])
             all_goals
              go_wp2
              go_meet
              case rel => exact ⟨by rw [HV.out] <;> rfl, rfl⟩
           ·have c3 : ¬ (fx ≤ x.time) := by omega
            have c3' : decide (fx ≤ x.time) = false := by rw [decide_eq_false_iff_not]; omega
            by_cases d4 : x.time ≤ fy
            ·have c4 : x.time ≤ fy := by omega
             have HV : Hid (wantB fa fb fx fy x = false) := Lib.hid (by unfold wantB; simp [d1, d2, d3, d4])
             all_goals
              go_wp2
              go_meet
              case rel => exact ⟨by rw [HV.out] <;> rfl, rfl⟩
            ·have c4 : ¬ (x.time ≤ fy) := by omega
             have c4' : decide (x.time ≤ fy) = false := by rw [decide_eq_false_iff_not]; omega
             have HV : Hid (wantB fa fb fx fy x = false) := Lib.hid (by unfold wantB; simp [d1, d2, d3, d4])
             all_goals
              go_wp2
              go_meet
              case rel => exact ⟨by rw [HV.out] <;> rfl, rfl⟩
         ·have c1 : ¬ ((fa : Int) ≤ (x.off : Int)) := by omega
          have c1' : decide ((fa : Int) ≤ (x.off : Int)) = false := by rw [decide_eq_false_iff_not]; omega
          by_cases d2 : x.off < fb
          ·have c2 : (x.off : Int) < (fb : Int) := by omega
           by_cases d3 : fx ≤ x.time
           ·have c3 : fx ≤ x.time := by omega
            by_cases d4 : x.time ≤ fy
            ·have c4 : x.time ≤ fy := by omega
             have HV : Hid (wantB fa fb fx fy x = false) := Lib.hid (by unfold wantB; simp [d1, d2, d3, d4])
             all_goals
              go_wp2
              go_meet
              case rel => exact ⟨by rw [HV.out] <;> rfl, rfl⟩
            ·have c4 : ¬ (x.time ≤ fy) := by omega
             have c4' : decide (x.time ≤ fy) = false := by rw [decide_eq_false_iff_not]; omega
             have HV : Hid (wantB fa fb fx fy x = false) := Lib.hid (by unfold wantB; simp [d1, d2, d3, d4])
             all_goals
              go_wp2
              go_meet
              case rel => exact ⟨by rw [HV.out] <;> rfl, rfl⟩
           ·have c3 : ¬ (fx ≤ x.time) := by omega
            have c3' : decide (fx ≤ x.time) = false := by rw [decide_eq_false_iff_not]; omega
            by_cases d4 : x.time ≤ fy
            ·have c4 : x.time ≤ fy := by omega
             have HV : Hid (wantB fa fb fx fy x = false) := Lib.hid (by unfold wantB; simp [d1, d2, d3, d4])
             all_goals
              go_wp2
              go_meet
              case rel => exact ⟨by rw [HV.out] <;> rfl, rfl⟩
            ·have c4 : ¬ (x.time ≤ fy) := by omega
             have c4' : decide (x.time ≤ fy) = false := by rw [decide_eq_false_iff_not]; omega
             have HV : Hid (wantB fa fb fx fy x = false) := Lib.hid (by unfold wantB; simp [d1, d2, d3, d4])
             all_goals
              go_wp2
              go_meet
              case rel => exact ⟨by rw [HV.out] <;> rfl, rfl⟩
          ·have c2 : ¬ ((x.off : Int) < (fb : Int)) := by omega
           have c2' : decide ((x.off : Int) < (fb : Int)) = false := by rw [decide_eq_false_iff_not]; omega
           by_cases d3 : fx ≤ x.time
           ·have c3 : fx ≤ x.time := by omega
            by_cases d4 : x.time ≤ fy
            ·have c4 : x.time ≤ fy := by omega
             have HV : Hid (wantB fa fb fx fy x = false) := Lib.hid (by unfold wantB; simp [d1, d2, d3, d4])
             all_goals
              go_wp2
              go_meet
              case rel => exact ⟨by rw [HV.out] <;> rfl, rfl⟩
            ·have c4 : ¬ (x.time ≤ fy) := by omega
             have c4' : decide (x.time ≤ fy) = false := by rw [decide_eq_false_iff_not]; omega
             have HV : Hid (wantB fa fb fx fy x = false) := Lib.hid (by unfold wantB; simp [d1, d2, d3, d4])
             all_goals
              go_wp2
              go_meet
              case rel => exact ⟨by rw [HV.out] <;> rfl, rfl⟩
           ·have c3 : ¬ (fx ≤ x.time) := by omega
            have c3' : decide (fx ≤ x.time) = false := by rw [decide_eq_false_iff_not]; omega
            by_cases d4 : x.time ≤ fy
            ·have c4 : x.time ≤ fy := by omega
             have HV : Hid (wantB fa fb fx fy x = false) := Lib.hid (by unfold wantB; simp [d1, d2, d3, d4])
             all_goals
              go_wp2
              go_meet
              case rel => exact ⟨by rw [HV.out] <;> rfl, rfl⟩
            ·have c4 : ¬ (x.time ≤ fy) := by omega
             have c4' : decide (x.time ≤ fy) = false := by rw [decide_eq_false_iff_not]; omega
             have HV : Hid (wantB fa fb fx fy x = false) := Lib.hid (by unfold wantB; simp [d1, d2, d3, d4])
             all_goals
              go_wp2
              go_meet
              case rel => exact ⟨by rw [HV.out] <;> rfl, rfl⟩
        case rest =>
         obtain ⟨rfl, hwc⟩ := hcut
         have hwc := hwc.symm
         subst hwc
         rcases hw : wantB fa fb fx fy x with _ | _
         ·have HTN : Hid ((R.take (t + 1)).filter (wantB fa fb fx fy) = (R.take t).filter (wantB fa fb fx fy)) := Lib.hid (by rw [HNF.out, hw, if_neg (by decide), List.append_nil])
          clear hw
          go_wp2
          go_roundw
          case rel => exact ⟨t + 1, m', cap', A', by omega, rfl, by rw [HNO.out], by rw [HNL.out], by rw [HNH.out], by rw [HZ.out]; go_num, by rw [HTN.out]; exact HO5.out, HMC'.out.1, HMC'.out.2, HB5.out⟩
          case measure => have hzz := HZ.out; simp [intOf, hz1]; omega
         ·have HTN : Hid ((R.take (t + 1)).filter (wantB fa fb fx fy) = (R.take t).filter (wantB fa fb fx fy) ++ [x]) := Lib.hid (by rw [HNF.out, hw, if_pos rfl])
          clear hw
          go_wp2_with (first
           | (refine wpList_load_row rfl 45 (.tmp 19) rfl bx rfl _ #[.int .u64 (x.off : Int), .int .i64 x.part, .int .i64 x.time, .string x.key, .float .f64 x.val] (0, 0) _ HRX.out uEvent rfl (iEvS x) ?_)
           | (at_builtin; refine wpList_append_ev rfl _ _ rfl w.heap.size A' m' cap' (F ++ (R.take t).filter (wantB fa fb fx fy)) rfl HO6.out (some ⟨W5.heap.size, 0, none⟩) 1 1 [x] rfl rfl (evAt_new W5 [x] _ rfl _) (fun h => by cases h) (m' + 1) rfl (by have := HML'.out; omega) hbs ?_; intro A3 c3 w3 ho3 h31 h32 h33 hb3; have HO3 := Lib.hid ho3; have HC3 := Lib.hid (And.intro h31 h32); have HB3 := Lib.hid (HB6.out.trans hb3); clear ho3 h31 h32 h33 hb3))
          go_roundw
          case rel => exact ⟨t + 1, m' + 1, c3, A3, by omega, rfl, by rw [HNO.out], by rw [HNL.out], by rw [HNH.out], by rw [HZ.out]; go_num, by rw [HTN.out, ← List.append_assoc]; exact HO3.out, HC3.out.1, HC3.out.2, HB3.out⟩
          case measure => have hzz := HZ.out; simp [intOf, hz1]; omega
    ·obtain ⟨rl, hrl⟩ : ∃ rl, rl = R.length := ⟨_, rfl⟩
     obtain rfl : t = rl := by omega
     have hTA : ∀ q : Ev → Bool, (R.take t).any q = R.any q := fun q => by rw [List.take_of_length_le (by omega)]
     have hTF : (R.take t).filter (wantB fa fb fx fy) = R.filter (wantB fa fb fx fy) := by rw [List.take_of_length_le (by omega)]
     have HCN : Hid (cntB fa fb fx fy R = ((R.take t).any (offIn fa fb) && ((R.take t).any (lowIn fy) && ((R.take t).any (highIn fx) && decide (fx ≤ fy))))) := Lib.hid (by unfold cntB; rw [hTA, hTA, hTA])
     have HOE : Hid (OwnE wr w.heap.size A' m' cap' ((M.take (64 * (k + 1))).filter (wantB fa fb fx fy))) := Lib.hid (by
      have h := HO'.out
      rw [hTF] at h
      rw [HTK.out, ← HBK.out, List.filter_append, HF.out]; exact h)
     have HNX : Hid (64 * (k + 1) = b + 64) := Lib.hid (by have := HBK.out; omega)
     have hw7 : IntKind.i64.wrap ((W7 : Int) + 1) = ((W7 + 1 : Nat) : Int) := by rw [IntKind.wrap_i64]; have := HWL.out; omega
     have hzc : ¬ z < n ∨ z = b + 64 := by have := HPL.out; omega
     have hk1 : k + 1 ≤ (n + 63) / 64 := by have := HBK.out; omega
     rw [← hz]
     clear hTA hTF hz hrl
     generalize (R.take t).any (offIn fa fb) = o7 at *
     generalize (R.take t).any (lowIn fy) = l7 at *
     generalize (R.take t).any (highIn fx) = h7 at *
     by_cases hzn : z < n
     ·obtain rfl : z = b + 64 := by omega
      have hz1 : ((b + 64 : Nat) : Int) < (n : Int) := by omega
      have hz2 : ¬ (((b + 64 : Nat) : Int) < ((b + 64 : Nat) : Int)) := by omega
      clear hzc hzn
      by_cases d5 : fx ≤ fy
      ·have c5 : fx ≤ fy := d5
       rcases o7 with _ | _ <;> rcases l7 with _ | _ <;> rcases h7 with _ | _
       all_goals
        go_wp2
        go_roundw
        case rel => exact ⟨k + 1, m', cap', A', hk1, rfl, by rw [HWN.out, HCN.out]; simp [d5], by first | (rw [HNX.out]; done) | (rw [HNX.out]; simp), HOE.out, HMC'.out.1, HMC'.out.2, HB'.out⟩
        case measure => simp [intOf]; omega
      ·have c5 : ¬ (fx ≤ fy) := d5
       have c5' : decide (fx ≤ fy) = false := by rw [decide_eq_false_iff_not]; omega
       rcases o7 with _ | _ <;> rcases l7 with _ | _ <;> rcases h7 with _ | _
       all_goals
        go_wp2
        go_roundw
        case rel => exact ⟨k + 1, m', cap', A', hk1, rfl, by rw [HWN.out, HCN.out]; simp [d5], by first | (rw [HNX.out]; done) | (rw [HNX.out]; simp), HOE.out, HMC'.out.1, HMC'.out.2, HB'.out⟩
        case measure => simp [intOf]; omega
     ·have hz1 : ¬ (z : Int) < (n : Int) := by omega
      clear hzc
      by_cases d5 : fx ≤ fy
      ·have c5 : fx ≤ fy := d5
       rcases o7 with _ | _ <;> rcases l7 with _ | _ <;> rcases h7 with _ | _
       all_goals
        go_wp2
        go_roundw
        case rel => exact ⟨k + 1, m', cap', A', hk1, rfl, by rw [HWN.out, HCN.out]; simp [d5], by first | (rw [HNX.out]; done) | (rw [HNX.out]; simp), HOE.out, HMC'.out.1, HMC'.out.2, HB'.out⟩
        case measure => simp [intOf]; omega
      ·have c5 : ¬ (fx ≤ fy) := d5
       have c5' : decide (fx ≤ fy) = false := by rw [decide_eq_false_iff_not]; omega
       rcases o7 with _ | _ <;> rcases l7 with _ | _ <;> rcases h7 with _ | _
       all_goals
        go_wp2
        go_roundw
        case rel => exact ⟨k + 1, m', cap', A', hk1, rfl, by rw [HWN.out, HCN.out]; simp [d5], by first | (rw [HNX.out]; done) | (rw [HNX.out]; simp), HOE.out, HMC'.out.1, HMC'.out.2, HB'.out⟩
        case measure => simp [intOf]; omega
  ·have hli : ¬ (b : Int) < (n : Int) := by omega
   have HKE : Hid (k = (n + 63) / 64) := Lib.hid (by omega)
   have HOE : Hid (OwnE wr w.heap.size A m cap (M.filter (wantB fa fb fx fy))) := Lib.hid (by
    have h := HO.out
    rw [List.take_of_length_le (by have := hn.out; omega)] at h; exact h)
   rw [← hb]
   clear hb
   go_wp2
   exact bodyPost_ret (results_tmp2R rfl _ _ _) rfl ⟨A, m, cap, by rw [← HKE.out]; rfl, HOE.out, HB.out⟩
end Go.Proofs.YtifabkbdiiolfaaGreatDoor
