/-
  The law MergeRuns: walked.
-/
import Derived.Test.YtoeknpaogeelmaaMq
import Derived.Test.YtoeknpaogeelmaaMl
set_option linter.unusedSimpArgs false
set_option linter.unusedVariables false
set_option maxRecDepth 8000
namespace Go.Proofs.Ytoeknpaogeelmaa
open Go.RowKit Go.Sort

theorem yb_lenR {ops : Array Oper} {S : World → Prop} {op : Oper} {a : Act} (hw : Region.wanted op (yielded ops a.tmps) = true) (x : Operand) (ho : op.op = .call { callee := .builtin .len, args := #[x], argTypes := #[22] }) (A : Option Addr) (n c : Nat) (hx : a.eval x = .slice A n c) : YieldsIf Try.prog ops S op (.int .i64 (n : Int)) a :=
  .inl ⟨hw, fun w _ => by
    unfold execOp
    simp only [ho, resolve, invoke, builtin, Sem.run_bind, Sem.run_pure, Result.andThen_ok, List.map_toArray, List.map_cons, List.map_nil, hx]
    rfl⟩
theorem yb_lenE {ops : Array Oper} {S : World → Prop} {op : Oper} {a : Act} (hw : Region.wanted op (yielded ops a.tmps) = true) (x : Operand) (ho : op.op = .call { callee := .builtin .len, args := #[x], argTypes := #[25] }) (A : Option Addr) (n c : Nat) (hx : a.eval x = .slice A n c) : YieldsIf Try.prog ops S op (.int .i64 (n : Int)) a :=
  .inl ⟨hw, fun w _ => by
    unfold execOp
    simp only [ho, resolve, invoke, builtin, Sem.run_bind, Sem.run_pure, Result.andThen_ok, List.map_toArray, List.map_cons, List.map_nil, hx]
    rfl⟩
theorem srtd_le (Ss : List Sl) (i : Nat) : (srtd Ss i).flatten.length ≤ (slL Ss).flatten.length := by
  have e : (srtd Ss i).flatten.length = (slL (Ss.take i)).flatten.length := by
    unfold srtd slL
    rw [List.length_flatten, List.length_flatten, List.map_map, List.map_map]
    congr 1
    exact List.map_congr_left fun s _ => isort_len _
  have e2 : slL Ss = slL (Ss.take i) ++ slL (Ss.drop i) := by unfold slL; rw [← List.map_append, List.take_append_drop]
  rw [e, e2, List.flatten_append, List.length_append]; omega
theorem srtd_flat {Ss : List Sl} {i : Nat} {s : Sl} (h : Ss[i]? = some s) : (srtd Ss (i + 1)).flatten = (srtd Ss i).flatten ++ isort ltM s.l := by
  rw [srtd_snoc h, List.flatten_append]; simp
theorem srtd_get {Ss : List Sl} {n j : Nat} {l : List Ev} (h : (srtd Ss n)[j]? = some l) : ∃ s ∈ Ss, l = isort ltM s.l := by
  obtain ⟨s, hs, rfl⟩ := List.mem_map.1 (List.mem_of_getElem? h)
  exact ⟨s, List.mem_of_mem_take hs, rfl⟩
def MR1 (W : World) (Ss : List Sl) (n : Nat) (us uf v : Value) (wr : World) : Prop :=
  ∃ (i : Nat) (As : Option Addr) (cs : Nat) (SS : List Sl) (Af : Option Addr) (k cf : Nat), i ≤ n ∧ v = .int .i64 (i : Int) ∧ us = .slice As i cs ∧ uf = .slice Af k cf ∧ MRS W.heap.size wr As i cs SS ⟨Af, cf, (srtd Ss i).flatten⟩ ∧ k = (srtd Ss i).flatten.length ∧ slL SS = srtd Ss i ∧ Below W.heap.size W wr
def At4 (t rb lb g k : Nat) : Prop := k = t ∨ k = rb ∨ k = lb ∨ k = g
def ML2 (wq : World) (B t rb lb gat cr cl n : Nat) (Rs0 : List (List Ev)) (want : List Ev) (N : Nat) (v : Value) (wr : World) : Prop :=
  ∃ (p : Nat) (f : Nat → Nat) (Rs : List (List Ev)) (win : Nat), p ≤ N ∧ v = .int .i64 (p : Int) ∧ Kept (At4 t rb lb gat) wq wr ∧ TreeT wr B t rb lb n cr cl Rs win ∧ Lefts Rs0 Rs n f ∧ AtRow wr gat n f ∧ isort ltM Rs.flatten = want.drop p ∧ ∀ r ∈ Rs, Ordered ltM r
theorem SlOwn.evr {w : World} {B : Nat} {s : Sl} (h : SlOwn w B s) (p : Nat) (x : Ev) (hx : s.l[p]? = some x) : ∃ g o, s.A = some ⟨g, o, none⟩ ∧ B ≤ g ∧ g < w.heap.size ∧ w.rangeAt g (o + p * 5) x.cells := by
  obtain ⟨g, o, e, hg, hr⟩ := Go.Proofs.Ytoeknpaogeelmaa.evr h.own.at' p x hx
  exact ⟨g, o, e, (h.base g (by rw [e]; rfl)).1, hg, hr⟩
theorem range_kept {S : Nat → Prop} {w w' : World} {g o : Nat} {x : Ev} (h : w.rangeAt g o x.cells) (hg : g < w.heap.size) (hS : ¬ S g) (hk : Kept S w w') : w'.rangeAt g o x.cells := fun j v hv => (hk.cell (p := ⟨g, o + j, none⟩) hg hS).trans (h j v hv)
theorem range_row {w : World} {g : Nat} {x : Ev} {fr : Nat × Nat} (h : w.heap[g]? = some (.cells #[.int .u64 (x.off : Int), .int .i64 x.part, .int .i64 x.time, .string x.key, .float .f64 x.val] 38 fr)) : w.rangeAt g 0 x.cells := fun j v hv => by
  rw [cell_of_row _ _ _ _ _ _ h, Nat.zero_add, ← Array.getElem?_toList]; exact hv
theorem drop_step {l : List Ev} {p : Nat} {x : Ev} {r : List Ev} (h : l.drop p = x :: r) : p < l.length ∧ l[p]? = some x ∧ l.drop (p + 1) = r := by
  have hp : p < l.length := by
    rcases Nat.lt_or_ge p l.length with h2 | h2
    · exact h2
    · rw [List.drop_eq_nil_of_le h2] at h; cases h
  rw [List.drop_eq_getElem_cons hp] at h
  injection h with h1 h2
  exact ⟨hp, by rw [List.getElem?_eq_getElem hp, h1], h2⟩
set_option maxHeartbeats 64000000 in
theorem mergeRuns_all (a : Option Addr) (n c : Nat) (Ss : List Sl) (hn : Hid (n = Ss.length)) (hnc : n ≤ c) (hcm : c ≤ maxLen) (hv : Hid (∀ s ∈ Ss, ∀ x ∈ s.l, x.val < 18446744073709551616)) (W : World) (HR : Hid (RunsIn W a Ss)) :
    Calls Try.prog 3 #[.slice a n c] W fun e w' => e = .returned (.bool true) ∧ Below W.heap.size W w' := by
  have HFEW := Lib.hid fun (w : World) (hb : Below W.heap.size W w) => few_any a n c Ss hn hnc hcm w (Lib.hid (HR.out.keep hb))
  go_enter Try.func3, Try.ntmps3
  go_wp2_with (go_at_call 7; refine (mawake_any _).mono ?_; rintro e w1 ⟨rfl, hb⟩; have HB1 := Lib.hid hb; clear hb)
  refine (HFEW.out _ HB1.out).mono ?_
  rintro e w2 ⟨b, rfl, hf, rfl⟩
  cases b
  · clear hf
    go_wp2_with (go_at_call 7; refine (mawake_any _).mono ?_; rintro e w3 ⟨rfl, hb⟩; have HB3 := Lib.hid (bto HB1.out hb); clear hb)
    go_ret
    exact ⟨rfl, HB3.out⟩
  · have hfew := hf rfl
    have HFE := Lib.hid hfew
    have hn40 : n ≤ 40 := by rw [hn.out]; exact hfew.n
    clear hf hfew HFEW
    have HST : Hid (MR1 W Ss n (.slice none 0 0) (.slice none 0 0) (.int .i64 0) w1) := Lib.hid ⟨0, none, 0, [], none, 0, 0, Nat.zero_le _, rfl, rfl, rfl, ⟨OwnR.nil _ _, fun s h => (by cases h), ⟨World.ownsRow_nil _ _ _ 5, Nat.le_refl _, Nat.zero_le _, fun _ => rfl, Nat.zero_le _⟩, fun s h => (by cases h)⟩, rfl, rfl, HB1.out⟩
    go_wp2
    go_loopw [3, 4, 5] (fun us uf v wr => MR1 W Ss n us uf v wr) (fun _ _ v _ => n - (intOf v).toNat)
    case atStart => exact HST.out
    case round =>
      obtain ⟨i, As, cs, SS, Af, k, cf, hi, rfl, rfl, rfl, hmr, hk, hss, hb⟩ := hrel
      have HMR := Lib.hid hmr; have HK := Lib.hid hk; have HSS := Lib.hid hss; have HB := Lib.hid hb
      have hk300 : k ≤ 300 := by rw [hk]; exact Nat.le_trans (srtd_le Ss i) HFE.out.all
      clear hmr hk hss hb HST
      by_cases hin : i < n
      · obtain ⟨s, hs⟩ : ∃ s, Ss[i]? = some s := ⟨_, List.getElem?_eq_getElem (by have := hn.out; omega)⟩
        obtain ⟨g, off, ha, hg, hcells⟩ := runs_one HR.out (by have := hn.out; omega)
        subst ha
        obtain ⟨m, hm⟩ : ∃ m, m = s.l.length := ⟨_, rfl⟩
        have hcw := (HB.out.cell (p := ⟨g, off + i, none⟩) hg).trans (hcells i s hs)
        rw [← hm] at hcw
        have hm100 : m ≤ 100 := by rw [hm]; exact HFE.out.each s (List.mem_of_getElem? hs)
        have HEV : Hid (EvAt wr s.A s.l) := Lib.hid ((HR.out.ok s (List.mem_of_getElem? hs)).at'.keep HB.out)
        have HSORT := Lib.hid (rsort_any s.A m s.c s.l (Lib.hid hm) (by omega) wr HEV)
        have HS := Lib.hid hs
        have HM : Hid (m = (isort ltM s.l).length) := Lib.hid (by rw [isort_len]; exact hm)
        have hii : (i : Int) < (n : Int) := by omega
        have hBW : W.heap.size ≤ wr.heap.size := HB.out.size
        have HFL2 : Hid ((srtd Ss (i + 1)).flatten = (srtd Ss i).flatten ++ isort ltM s.l) := Lib.hid (srtd_flat hs)
        have HKM : Hid (k + m = ((srtd Ss i).flatten ++ isort ltM s.l).length) := Lib.hid (by rw [List.length_append, ← HM.out, ← HK.out])
        clear hs hm hg hcells
        go_wp2_with (first
          | (go_at_call 9; (with_reducible refine (HSORT.out).mono ?_); rintro e w2 ⟨S, sc, rfl, ho, hb2⟩; have HO := Lib.hid ho; have HB2 := Lib.hid hb2; obtain ⟨S', cs', eS, g1, g2, g3⟩ := ro_slice ho; injection eS with eS1 eS2 eS3; subst eS1; subst eS3; have HNIL := Lib.hid g3; have HBA : Hid (Below w2.heap.size w2 (w2.alloc (.cells #[.slice S m sc] 25))) := Lib.hid ((Below.refl _ _).alloc (Nat.le_refl _) _); have hbs2 : W.heap.size ≤ (w2.alloc (.cells #[.slice S m sc] 25)).heap.size := (by have := hb2.size; simp; omega); have HSL : Hid (SlOwn w2 W.heap.size ⟨S, sc, isort ltM s.l⟩) := Lib.hid (own_sl ho hBW HM.out (by omega)); have HNE : Hid (∀ k, S.map (·.block) = some k → Af.map (·.block) ≠ some k) := Lib.hid (fun k hk e => by have h1 := ((own_sl ho (Nat.le_refl _) HM.out (by omega)).base k hk).1; have h2 := (HMR.out.fl.base k e).2.1; omega); clear ho hb2 eS2 g1 g2 g3)
          | (at_builtin; refine wpList_append_run rfl (.tmp 43) (.tmp 45) rfl W.heap.size As i cs SS rfl ((HMR.out.below HB2.out).below HBA.out).rw w2.heap.size ⟨S, sc, isort ltM s.l⟩ rfl (by show _ = some (Value.slice S (isort ltM s.l).length sc); rw [← HM.out, cell_of_row _ _ _ _ _ _ (heap_alloc_newM w2 _)]; rfl) (by omega) hbs2 ?_; intro A4 c4 w4 ho4 hg4 hb4 hp4; have HMR4 := Lib.hid (((HMR.out.below HB2.out).below HBA.out).addRow ⟨S, sc, isort ltM s.l⟩ (HSL.out.below HBA.out) HNE.out A4 c4 ho4 hg4); have HB4 := Lib.hid hb4; have HEV4 : Hid (EvAt w4 S (isort ltM s.l)) := Lib.hid (HMR4.out.ow ⟨S, sc, isort ltM s.l⟩ (by simp)).own.at'; have HF4 : Hid (OwnE w4 W.heap.size Af k cf (srtd Ss i).flatten) := Lib.hid (by rw [HK.out]; exact HMR4.out.fl.own); have hbs4 : W.heap.size ≤ w4.heap.size := Nat.le_trans hbs2 hb4.size; clear ho4 hg4 hb4 hp4)
          | (at_builtin; refine wpList_append_evG rfl (.tmp 47) (.tmp 48) rfl W.heap.size Af k cf (srtd Ss i).flatten rfl HF4.out S m sc (isort ltM s.l) rfl HM.out HEV4.out HNIL.out (k + m) rfl (by omega) hbs4 ?_; intro A5 c5 w5 ho5 hc5 hm5 hn5 hb5 hg5 hp5; have HMR5 := Lib.hid (HMR4.out.addFlat ⟨A5, c5, (srtd Ss i).flatten ++ isort ltM s.l⟩ (own_sl ho5 (Nat.le_refl _) HKM.out (by omega)) hg5 hp5); have HB5 := Lib.hid hb5; clear ho5 hc5 hm5 hn5 hb5 hg5 hp5))
        go_roundw
        case rel =>
          have b1 : Below W.heap.size W w2 := bto HB.out HB2.out
          have b2 : Below W.heap.size W w4 := (bto b1 HBA.out).trans HB4.out
          have b3 : Below W.heap.size W w5 := b2.trans HB5.out
          exact ⟨i + 1, A4, c4, _, A5, k + m, c5, by omega, by go_num, rfl, rfl, by rw [HFL2.out]; exact HMR5.out, by rw [HFL2.out]; exact HKM.out, by rw [slL_snoc, HSS.out, srtd_snoc HS.out], b3⟩
        case measure => simp [intOf]; omega
      · obtain rfl : i = n := by omega
        obtain ⟨wa, rfl⟩ : ∃ wa, wa = wr := ⟨_, rfl⟩
        by_cases hrange : 1 ≤ i ∧ i ≤ 16
        · obtain ⟨hn1, hn16⟩ := hrange
          have h1i : ¬ (i : Int) < 1 := by omega
          have h16i : ¬ (16 : Int) < (i : Int) := by omega
          have hlenS : SS.length = i := HMR.out.rw.len.symm
          obtain ⟨s0, hs0⟩ : ∃ s, SS[0]? = some s := ⟨_, List.getElem?_eq_getElem (by omega)⟩
          obtain ⟨gs, os, hAs, hgs, -⟩ := HMR.out.rw.cell 0 _ hs0
          subst hAs
          have HGS := Lib.hid hgs
          have HLS := Lib.hid hlenS
          have HSF : Hid ((slL SS).flatten = (srtd Ss i).flatten) := Lib.hid (by rw [HSS.out])
          have HORD : Hid (∀ r ∈ slL SS, Ordered ltM r) := Lib.hid (by rw [HSS.out]; exact fun r hr => (ordB_iff wkE r).1 (List.all_eq_true.1 (srtd_ord Ss i) r hr))
          have HNEW : Hid (Calls Try.prog 10 #[.slice (some ⟨gs, os, none⟩) i cs] wa (NewOk wa i (slL SS))) := Lib.hid ((new_any gs os i cs SS (Lib.hid hlenS.symm) (by omega) hn16 HMR.out.rw.caps.1 HMR.out.rw.caps.2 wa (Lib.hid (HMR.out.rw.runs HMR.out.ow))).mono fun e w' h => by
            unfold NewEnds at h
            rw [HSS.out, if_pos (srtd_ord Ss i), ← HSS.out] at h
            exact h)
          have HALL : Hid (∀ w, Below wa.heap.size wa w → Calls Try.prog 11 #[.slice (some ⟨gs, os, none⟩) i cs] w (AllOk w (slL SS))) := Lib.hid fun w hb => (all_any gs os i cs SS (Lib.hid hlenS.symm) (by omega) hn16 HMR.out.rw.caps.1 HMR.out.rw.caps.2 (Lib.hid (by rw [HSF.out, ← HK.out]; omega)) w (Lib.hid ((HMR.out.below hb).rw.runs (HMR.out.below hb).ow))).mono fun e w' h => by
            unfold AllEnds at h
            rw [HSS.out, if_pos (srtd_ord Ss i), ← HSS.out] at h
            exact h
          have HKI : Hid (k = (isort ltM (srtd Ss i).flatten).length) := Lib.hid (by rw [isort_len]; exact HK.out)
          have HVF : Hid (∀ x ∈ isort ltM (srtd Ss i).flatten, x.val < 18446744073709551616) := Lib.hid fun x hx => by
            obtain ⟨l, hl, hxl⟩ := List.mem_flatten.1 (isortM_mem _ _ hx)
            obtain ⟨j, hj⟩ := List.getElem?_of_mem hl
            obtain ⟨s, hs, rfl⟩ := srtd_get hj
            exact hv.out s hs x (isortM_mem _ _ hxl)
          clear hs0 hgs hlenS
          go_wp2_with (first
            | (go_at_call 10; (with_reducible refine (HNEW.out).mono ?_); rintro e w2 ⟨t, rb, lb, cr, cl, win, L, V, rfl, hT, hTo, hV, hb2⟩; have HT2 : Hid (TreeT w2 wa.heap.size t rb lb i cr cl (slL SS) win) := Lib.hid ⟨L, V, hT, hTo, hV⟩; have HLT2 : Hid (t < w2.heap.size ∧ rb < w2.heap.size ∧ lb < w2.heap.size ∧ wa.heap.size ≤ t ∧ wa.heap.size ≤ rb ∧ wa.heap.size ≤ lb) := Lib.hid ⟨hT.lt, hT.rrow.lt, hT.lrow.lt, hT.bt, hT.br, hT.bl⟩; have HB2 := Lib.hid hb2; clear hT hTo hV hb2)
            | (go_at_call 11; refine (HALL.out _ HB2.out).mono ?_; rintro e w3 ⟨A, N, cap, rfl, hN, ho, -, -, -, hb3⟩; have hNk : k = N := (by rw [hN, HSF.out]; exact HK.out); subst hNk; rw [HSF.out] at ho; have HO3 := Lib.hid ho; have HB3 := Lib.hid hb3; clear hN ho hb3)
            | (go_at_call 9; refine (rsort_any Af k cf (srtd Ss i).flatten HK (by omega) w3 (Lib.hid (HMR.out.below (bto HB2.out HB3.out)).fl.own.at')).mono ?_; rintro e w4 ⟨Sw, cw, rfl, ho4, hb4⟩; have HO4 := Lib.hid ho4; have HB4 := Lib.hid hb4; clear ho4 hb4)
            | (go_at_call 12; refine (sameAllM_any A Sw k cap cw (isort ltM (srtd Ss i).flatten) HKI (by omega) HVF w4 (Lib.hid (HO3.out.at'.keep HB4.out)) (Lib.hid HO4.out.at')).mono ?_; rintro e w5 ⟨rfl, hb5⟩; obtain ⟨gat, wq, hmk, hat, hbq, hgat⟩ := make_at2 i (by omega) w5; have HB5 := Lib.hid hb5; have HBQ := Lib.hid hbq; have HATQ := Lib.hid hat; have HGAT := Lib.hid hgat; clear hb5 hbq hat hgat))
          have b2q : Below w2.heap.size w2 wq := bto (bto (bto HB3.out HB4.out) HB5.out) HBQ.out
          have b4q : Below w4.heap.size w4 wq := bto HB5.out HBQ.out
          have baq : Below wa.heap.size wa wq := bto HB2.out b2q
          have HBAQ := Lib.hid baq
          have HSEP : Hid (∀ g, (g < wa.heap.size ∨ (w3.heap.size ≤ g ∧ g < w4.heap.size)) → ¬ At4 t rb lb gat g ∧ g < wq.heap.size) := Lib.hid fun g h => by
            have h1 := HLT2.out; have h2 := HGAT.out; have h3 := HB2.out.size; have h4 := HB3.out.size; have h5 := HB4.out.size; have h6 := HB5.out.size; have h7 := baq.size; have h8 := b4q.size
            refine ⟨fun e => ?_, by omega⟩
            rcases e with e | e | e | e <;> omega
          have RDS : Hid (∀ w, Kept (At4 t rb lb gat) wq w → ∀ (j : Nat) (s : Sl), SS[j]? = some s → w.cell? ⟨gs, os + j, none⟩ = some s.v) := Lib.hid fun w hk j s hs => by
            obtain ⟨g9, o9, e9, -, hc9⟩ := (HMR.out.below baq).rw.cell j s hs
            injection e9 with e9; injection e9 with x1 x2; subst x1; subst x2
            have h := HSEP.out gs (.inl HGS.out)
            exact (hk.cell (p := ⟨gs, os + j, none⟩) h.2 h.1).trans hc9
          have RDE : Hid (∀ s ∈ SS, ∀ (p : Nat) (x : Ev), s.l[p]? = some x → ∃ g o, s.A = some ⟨g, o, none⟩ ∧ ∀ w, Kept (At4 t rb lb gat) wq w → w.rangeAt g (o + p * 5) x.cells) := Lib.hid fun s hs p x hx => by
            obtain ⟨g, o, e, -, hg, hr⟩ := (HMR.out.ow s hs).evr p x hx
            have h := HSEP.out g (.inl hg)
            exact ⟨g, o, e, fun w hk => range_kept (rangeM_keep hr hg baq) h.2 h.1 hk⟩
          have RDW : Hid (∀ (p : Nat) (x : Ev), (isort ltM (srtd Ss i).flatten)[p]? = some x → ∃ g o, Sw = some ⟨g, o, none⟩ ∧ ∀ w, Kept (At4 t rb lb gat) wq w → w.rangeAt g (o + p * 5) x.cells) := Lib.hid fun p x hx => by
            obtain ⟨g, o, e, hg3, hg, hr⟩ := (own_sl (l := isort ltM (srtd Ss i).flatten) HO4.out (Nat.le_refl _) HKI.out (by omega)).evr p x hx
            have h := HSEP.out g (.inr ⟨hg3, hg⟩)
            exact ⟨g, o, e, fun w hk => range_kept (rangeM_keep hr hg b4q) h.2 h.1 hk⟩
          have HGN : Hid (gat ≠ t ∧ gat ≠ rb ∧ gat ≠ lb) := Lib.hid (by
            have h1 := HLT2.out; have h2 := HGAT.out; have h4 := HB3.out.size; have h5 := HB4.out.size; have h6 := HB5.out.size
            omega)
          have HS4 : Hid (∀ k, At4 t rb lb gat k → wa.heap.size ≤ k) := Lib.hid fun k hk => by
            have h1 := HLT2.out; have h2 := HGAT.out; have h3 := HB2.out.size; have h4 := HB3.out.size; have h5 := HB4.out.size; have h6 := HB5.out.size
            rcases hk with e | e | e | e <;> omega
          have HST2 : Hid (ML2 wq wa.heap.size t rb lb gat cr cl i (slL SS) (isort ltM (srtd Ss i).flatten) k (.int .i64 0) wq) := Lib.hid ⟨0, fun _ => 0, slL SS, win, Nat.zero_le _, rfl, Kept.refl _ _, HT2.out.keepS (S := fun _ => False) (Kept.of_below b2q) id id id (fun k hk => hk.elim), fun j hj => by
              obtain ⟨l, hl⟩ : ∃ l, (slL SS)[j]? = some l := ⟨_, List.getElem?_eq_getElem (by unfold slL; rw [List.length_map, HLS.out]; exact hj)⟩
              exact ⟨l, hl, Nat.zero_le _, by rw [List.drop_zero]; exact hl⟩, HATQ.out, by rw [HSF.out, List.drop_zero], HORD.out⟩
          clear b2q b4q baq hmk HT2 HNEW HALL HO3 HO4 HATQ HORD
          go_wp2
          go_loopw [13] (fun v wr => ML2 wq wa.heap.size t rb lb gat cr cl i (slL SS) (isort ltM (srtd Ss i).flatten) k v wr) (fun v _ => k - (intOf v).toNat)
          case atStart => exact HST2.out
          case round =>
            obtain ⟨wb, rfl⟩ : ∃ wb, wb = wr := ⟨_, rfl⟩
            obtain ⟨p, f, Rs, win, hp, rfl, hkq, htt, hlf, hat, hwd, hord⟩ := hrel
            obtain ⟨hlenR, hwin, hbest, hnx⟩ := htt.next hord
            have HTT := Lib.hid htt; have HKQ := Lib.hid hkq; have HLF := Lib.hid hlf; have HAT := Lib.hid hat; have HBEST := Lib.hid hbest
            clear hlenR HST2 hkq hlf hat hbest hord htt
            by_cases hpk : p < k
            · obtain ⟨x, xs, hr, hget, hpop, hord2⟩ : ∃ x xs, rsF Rs win = x :: xs ∧ Rs[win]? = some (x :: xs) ∧ isort ltM Rs.flatten = x :: isort ltM (Rs.set win xs).flatten ∧ ∀ r ∈ Rs.set win xs, Ordered ltM r := by
                rcases hnx with ⟨-, hfl0⟩ | ⟨x, xs, h1, h2, h3, h4, -⟩
                · exfalso
                  rw [hfl0] at hwd
                  have h := congrArg List.length hwd
                  rw [List.length_drop, isort_len, ← HKI.out] at h
                  simp at h; omega
                · exact ⟨x, xs, h1, h2, h3, h4⟩
              rw [hpop] at hwd
              obtain ⟨-, hwx, hwd2⟩ := drop_step hwd.symm
              obtain ⟨hlf2, l, hl, hfl, hfx⟩ := HLF.out.set win hwin x xs hget
              obtain ⟨s, hs, hsl⟩ : ∃ s, SS[win]? = some s ∧ s.l = l := by
                unfold slL at hl; rw [List.getElem?_map] at hl
                rcases h : SS[win]? with _ | s
                · rw [h] at hl; cases hl
                · rw [h] at hl; injection hl with hl; exact ⟨s, rfl, hl⟩
              subst hsl
              obtain ⟨ge, oe, hSE, hre⟩ := RDE.out s (List.mem_of_getElem? hs) (f win) x hfx
              obtain ⟨gw, ow, hSW, hrw⟩ := RDW.out p x hwx
              obtain ⟨S, sc, sl⟩ := s
              have hSE : S = some ⟨ge, oe, none⟩ := hSE
              subst hSE; subst hSW
              obtain ⟨m, hm⟩ : ∃ m, m = sl.length := ⟨_, rfl⟩
              have hm1000 : m ≤ 1000 := by rw [hm]; exact (HMR.out.ow _ (List.mem_of_getElem? hs)).small
              have hfm : f win < m := by rw [hm]; exact hfl
              have HC2Q : Hid (∀ w, Kept (At4 t rb lb gat) wq w → w.cell? ⟨gs, os + win, none⟩ = some (.slice (some ⟨ge, oe, none⟩) m sc)) := Lib.hid fun w hk => by
                rw [RDS.out w hk win _ hs, hm]; rfl
              have HVX := Lib.hid (HVF.out x (List.mem_of_getElem? hwx))
              have HN := Lib.hid (next_yes wa.heap.size t rb lb i cr cl Rs win x xs hr wb HTT)
              have HLF2 := Lib.hid hlf2; have HWD2 := Lib.hid hwd2; have HORD2 := Lib.hid hord2; have HRE := Lib.hid hre; have HRW := Lib.hid hrw; have HRR := Lib.hid hr
              have hpi : (p : Int) < (k : Int) := by omega
              have hwi : (win : Int) < (i : Int) := by omega
              have hfi : (f win : Int) < (m : Int) := by omega
              clear hlf2 hwd2 hord2 hre hrw hr hget hpop hwd hwx hl hfl hfx hnx hs hm
              go_upto_region 23 with (first
                | (go_at_call 13; (with_reducible refine (HN.out).mono ?_); rintro e w6 ⟨rfl, ⟨win', ht6⟩, hk6⟩; have HT6 := Lib.hid ht6; have HK6 := Lib.hid hk6; clear ht6 hk6)
                | (refine wpList_store_row rfl 38 (.tmp 14) (.tmp 104) rfl w6.heap.size #[.int .u64 (x.off : Int), .int .i64 x.part, .int .i64 x.time, .string x.key, .float .f64 x.val] rfl rfl _ _ (heap_alloc_newM _ _) (iEvA x) rfl (oneEvA x) ?_; rw [World.setRow_alloc_new]))
              obtain ⟨w7, hw7⟩ : ∃ w7, w7 = w6.alloc (.cells #[.int .u64 (x.off : Int), .int .i64 x.part, .int .i64 x.time, .string x.key, .float .f64 x.val] 38) := ⟨_, rfl⟩
              obtain ⟨r0, hr0⟩ : ∃ r0, r0 = w6.heap.size := ⟨_, rfl⟩
              have hb67 : Below w6.heap.size w6 w7 := by rw [hw7]; exact (Below.refl _ _).alloc (Nat.le_refl _) _
              have HROW0 : Hid (w7.heap[r0]? = some (.cells #[.int .u64 (x.off : Int), .int .i64 x.part, .int .i64 x.time, .string x.key, .float .f64 x.val] 38 (0, 0))) := Lib.hid (by rw [hw7, hr0]; exact heap_alloc_newM _ _)
              have HK7 : Hid (Kept (At4 t rb lb gat) wq w7) := Lib.hid ((HKQ.out.trans (HK6.out.mono fun k hk => .inl (by rcases hk with e | e | e; exact .inl e; exact .inr (.inl e); exact .inr (.inr (.inl e))))).trans (Kept.of_below hb67))
              have HT7 : Hid (TreeT w7 wa.heap.size t rb lb i cr cl (Rs.set win xs) win') := Lib.hid (HT6.out.keepS (S := fun _ => False) (Kept.of_below hb67) id id id (fun k hk => hk.elim))
              have HAT6 : Hid (AtRow w6 gat i f) := Lib.hid (HAT.out.of (HK6.out.block gat HAT.out.lt (fun e => by have h := HGN.out; rcases e with e | e | e; exact h.1 e; exact h.2.1 e; exact h.2.2 e)))
              have HAT7 : Hid (AtRow w7 gat i f) := Lib.hid (HAT6.out.of (hb67.block gat HAT6.out.lt))
              have hr0lt : r0 < w7.heap.size := (Array.getElem?_eq_some_iff.1 HROW0.out).1
              rw [← hw7, ← hr0]
              have HC1 : Hid (∀ w, Below w7.heap.size w7 w → w.cell? ⟨gat, win, none⟩ = some (.int .i64 (f win : Int))) := Lib.hid fun w h => (HAT7.out.of (h.block gat HAT7.out.lt)).cell hwin
              have HC2 : Hid (∀ w, Below w7.heap.size w7 w → w.cell? ⟨gs, os + win, none⟩ = some (.slice (some ⟨ge, oe, none⟩) m sc)) := Lib.hid fun w h => HC2Q.out w (HK7.out.trans (Kept.of_below h))
              have HX1 : Hid (∀ w, Below w7.heap.size w7 w → w.rangeAt r0 0 x.cells) := Lib.hid fun w h => range_row ((h.block r0 hr0lt).trans HROW0.out)
              have HX2 : Hid (∀ w, Below w7.heap.size w7 w → w.rangeAt ge (oe + f win * 5) x.cells) := Lib.hid fun w h => HRE.out w (HK7.out.trans (Kept.of_below h))
              have HX3 : Hid (∀ w, Below w7.heap.size w7 w → w.rangeAt gw (ow + p * 5) x.cells) := Lib.hid fun w h => HRW.out w (HK7.out.trans (Kept.of_below h))
              clear hw7 hr0 hb67
              have hh0 : Below w7.heap.size w7 w7.drew := (Below.refl _ _).drew
              refine wp_region_held_drew (S := fun w2 => Below w7.heap.size w7 w2) (by kernel_rfl) hh0 (fun hHeld => ?_)
              refine wpAnyH_take (i := 0) (v := .bool true) rfl (by kernel_rfl) (by kernel_rfl) (by kernel_rfl) (fun _ _ _ h => h) (Or.inl ⟨by rfl, fun _ _ => rfl⟩) hHeld ?_
              try dsimp only
              try simp only [Act.put, List.getElem_toArray, List.getElem_cons_zero, List.getElem_cons_succ, List.setIfInBounds_toArray, List.set_cons_zero, List.set_cons_succ]
              refine wpAnyH_take (i := 1) (v := .bool false) rfl (by kernel_rfl) (by kernel_rfl) (by kernel_rfl) (fun _ _ _ h => h) (Or.inl ⟨by rfl, fun w _ => by go_simp⟩) hHeld ?_
              try dsimp only
              try simp only [Act.put, List.getElem_toArray, List.getElem_cons_zero, List.getElem_cons_succ, List.setIfInBounds_toArray, List.set_cons_zero, List.set_cons_succ]
              refine wpAnyH_take (i := 2) (v := .bool false) rfl (by kernel_rfl) (by kernel_rfl) (by kernel_rfl) (fun _ _ _ h => h) (Or.inl ⟨by rfl, fun _ _ => rfl⟩) hHeld ?_
              try dsimp only
              try simp only [Act.put, List.getElem_toArray, List.getElem_cons_zero, List.getElem_cons_succ, List.setIfInBounds_toArray, List.set_cons_zero, List.set_cons_succ]
              refine wpAnyH_take (i := 3) (v := .int .i64 (win : Int)) rfl (by kernel_rfl) (by kernel_rfl) (by kernel_rfl) (fun _ _ _ h => h) (Or.inl ⟨by rfl, fun _ _ => rfl⟩) hHeld ?_
              try dsimp only
              try simp only [Act.put, List.getElem_toArray, List.getElem_cons_zero, List.getElem_cons_succ, List.setIfInBounds_toArray, List.set_cons_zero, List.set_cons_succ]
              refine wpAnyH_take (i := 4) (v := .bool false) rfl (by kernel_rfl) (by kernel_rfl) (by kernel_rfl) (fun _ _ _ h => h) (Or.inl ⟨by rfl, fun w _ => by go_simp; try omega⟩) hHeld ?_
              try dsimp only
              try simp only [Act.put, List.getElem_toArray, List.getElem_cons_zero, List.getElem_cons_succ, List.setIfInBounds_toArray, List.set_cons_zero, List.set_cons_succ]
              refine wpAnyH_take (i := 5) (v := .bool false) rfl (by kernel_rfl) (by kernel_rfl) (by kernel_rfl) (fun _ _ _ h => h) (Or.inl ⟨by rfl, fun w _ => by go_simp⟩) hHeld ?_
              try dsimp only
              try simp only [Act.put, List.getElem_toArray, List.getElem_cons_zero, List.getElem_cons_succ, List.setIfInBounds_toArray, List.set_cons_zero, List.set_cons_succ]
              refine wpAnyH_take (i := 6) (v := .bool false) rfl (by kernel_rfl) (by kernel_rfl) (by kernel_rfl) (fun _ _ _ h => h) (Or.inl ⟨by rfl, fun _ _ => rfl⟩) hHeld ?_
              try dsimp only
              try simp only [Act.put, List.getElem_toArray, List.getElem_cons_zero, List.getElem_cons_succ, List.setIfInBounds_toArray, List.set_cons_zero, List.set_cons_succ]
              refine wpAnyH_take (i := 7) (v := .int .i64 (win : Int)) rfl (by kernel_rfl) (by kernel_rfl) (by kernel_rfl) (fun _ _ _ h => h) (Or.inl ⟨by rfl, fun _ _ => rfl⟩) hHeld ?_
              try dsimp only
              try simp only [Act.put, List.getElem_toArray, List.getElem_cons_zero, List.getElem_cons_succ, List.setIfInBounds_toArray, List.set_cons_zero, List.set_cons_succ]
              refine wpAnyH_take (i := 8) (v := .slice a i c) rfl (by kernel_rfl) (by kernel_rfl) (by kernel_rfl) (fun _ _ _ h => h) (Or.inl ⟨by rfl, fun _ _ => rfl⟩) hHeld ?_
              try dsimp only
              try simp only [Act.put, List.getElem_toArray, List.getElem_cons_zero, List.getElem_cons_succ, List.setIfInBounds_toArray, List.set_cons_zero, List.set_cons_succ]
              refine wpAnyH_take (i := 9) (v := .int .i64 (i : Int)) rfl (by kernel_rfl) (by kernel_rfl) (by kernel_rfl) (fun _ _ _ h => h) (yb_lenR rfl (.tmp 115) rfl _ _ _ rfl) hHeld ?_
              try dsimp only
              try simp only [Act.put, List.getElem_toArray, List.getElem_cons_zero, List.getElem_cons_succ, List.setIfInBounds_toArray, List.set_cons_zero, List.set_cons_succ]
              refine wpAnyH_take (i := 10) (v := .bool false) rfl (by kernel_rfl) (by kernel_rfl) (by kernel_rfl) (fun _ _ _ h => h) (Or.inl ⟨by rfl, fun w _ => by go_simp; try omega⟩) hHeld ?_
              try dsimp only
              try simp only [Act.put, List.getElem_toArray, List.getElem_cons_zero, List.getElem_cons_succ, List.setIfInBounds_toArray, List.set_cons_zero, List.set_cons_succ]
              refine wpAnyH_take (i := 11) (v := .bool false) rfl (by kernel_rfl) (by kernel_rfl) (by kernel_rfl) (fun _ _ _ h => h) (Or.inl ⟨by rfl, fun w _ => by go_simp⟩) hHeld ?_
              try dsimp only
              try simp only [Act.put, List.getElem_toArray, List.getElem_cons_zero, List.getElem_cons_succ, List.setIfInBounds_toArray, List.set_cons_zero, List.set_cons_succ]
              refine wpAnyH_take (i := 12) (v := .bool false) rfl (by kernel_rfl) (by kernel_rfl) (by kernel_rfl) (fun _ _ _ h => h) (Or.inl ⟨by rfl, fun _ _ => rfl⟩) hHeld ?_
              try dsimp only
              try simp only [Act.put, List.getElem_toArray, List.getElem_cons_zero, List.getElem_cons_succ, List.setIfInBounds_toArray, List.set_cons_zero, List.set_cons_succ]
              refine wpAnyH_take (i := 13) (v := .slice (some ⟨gat, 0, none⟩) i i) rfl (by kernel_rfl) (by kernel_rfl) (by kernel_rfl) (fun _ _ _ h => h) (Or.inl ⟨by rfl, fun _ _ => rfl⟩) hHeld ?_
              try dsimp only
              try simp only [Act.put, List.getElem_toArray, List.getElem_cons_zero, List.getElem_cons_succ, List.setIfInBounds_toArray, List.set_cons_zero, List.set_cons_succ]
              refine wpAnyH_take (i := 14) (v := .int .i64 (win : Int)) rfl (by kernel_rfl) (by kernel_rfl) (by kernel_rfl) (fun _ _ _ h => h) (Or.inl ⟨by rfl, fun _ _ => rfl⟩) hHeld ?_
              try dsimp only
              try simp only [Act.put, List.getElem_toArray, List.getElem_cons_zero, List.getElem_cons_succ, List.setIfInBounds_toArray, List.set_cons_zero, List.set_cons_succ]
              refine wpAnyH_take (i := 15) (v := .pointer (some ⟨gat, win, none⟩)) rfl (by kernel_rfl) (by kernel_rfl) (by kernel_rfl) (fun _ _ _ h => h) (Or.inl ⟨by rfl, fun w _ => by go_simp⟩) hHeld ?_
              try dsimp only
              try simp only [Act.put, List.getElem_toArray, List.getElem_cons_zero, List.getElem_cons_succ, List.setIfInBounds_toArray, List.set_cons_zero, List.set_cons_succ]
              refine wpAnyH_take (i := 16) (v := .int .i64 (f win : Int)) rfl (by kernel_rfl) (by kernel_rfl) (by kernel_rfl) (fun _ _ _ h => h) (Or.inl ⟨by rfl, fun w hw => by have hc : w.cell? ⟨gat, win, none⟩ = some (.int .i64 (f win : Int)) := HC1.out w hw; go_simp⟩) hHeld ?_
              try dsimp only
              try simp only [Act.put, List.getElem_toArray, List.getElem_cons_zero, List.getElem_cons_succ, List.setIfInBounds_toArray, List.set_cons_zero, List.set_cons_succ]
              refine wpAnyH_take (i := 17) (v := .slice (some ⟨gs, os, none⟩) i cs) rfl (by kernel_rfl) (by kernel_rfl) (by kernel_rfl) (fun _ _ _ h => h) (Or.inl ⟨by rfl, fun _ _ => rfl⟩) hHeld ?_
              try dsimp only
              try simp only [Act.put, List.getElem_toArray, List.getElem_cons_zero, List.getElem_cons_succ, List.setIfInBounds_toArray, List.set_cons_zero, List.set_cons_succ]
              refine wpAnyH_take (i := 18) (v := .int .i64 (win : Int)) rfl (by kernel_rfl) (by kernel_rfl) (by kernel_rfl) (fun _ _ _ h => h) (Or.inl ⟨by rfl, fun _ _ => rfl⟩) hHeld ?_
              try dsimp only
              try simp only [Act.put, List.getElem_toArray, List.getElem_cons_zero, List.getElem_cons_succ, List.setIfInBounds_toArray, List.set_cons_zero, List.set_cons_succ]
              refine wpAnyH_take (i := 19) (v := .pointer (some ⟨gs, os + win, none⟩)) rfl (by kernel_rfl) (by kernel_rfl) (by kernel_rfl) (fun _ _ _ h => h) (Or.inl ⟨by rfl, fun w _ => by go_simp⟩) hHeld ?_
              try dsimp only
              try simp only [Act.put, List.getElem_toArray, List.getElem_cons_zero, List.getElem_cons_succ, List.setIfInBounds_toArray, List.set_cons_zero, List.set_cons_succ]
              refine wpAnyH_take (i := 20) (v := .slice (some ⟨ge, oe, none⟩) m sc) rfl (by kernel_rfl) (by kernel_rfl) (by kernel_rfl) (fun _ _ _ h => h) (Or.inl ⟨by rfl, fun w hw => by have hc : w.cell? ⟨gs, os + win, none⟩ = some (.slice (some ⟨ge, oe, none⟩) m sc) := HC2.out w hw; go_simp⟩) hHeld ?_
              try dsimp only
              try simp only [Act.put, List.getElem_toArray, List.getElem_cons_zero, List.getElem_cons_succ, List.setIfInBounds_toArray, List.set_cons_zero, List.set_cons_succ]
              refine wpAnyH_take (i := 21) (v := .int .i64 (m : Int)) rfl (by kernel_rfl) (by kernel_rfl) (by kernel_rfl) (fun _ _ _ h => h) (yb_lenE rfl (.tmp 127) rfl _ _ _ rfl) hHeld ?_
              try dsimp only
              try simp only [Act.put, List.getElem_toArray, List.getElem_cons_zero, List.getElem_cons_succ, List.setIfInBounds_toArray, List.set_cons_zero, List.set_cons_succ]
              refine wpAnyH_take (i := 22) (v := .bool false) rfl (by kernel_rfl) (by kernel_rfl) (by kernel_rfl) (fun _ _ _ h => h) (Or.inl ⟨by rfl, fun w _ => by go_simp; try omega⟩) hHeld ?_
              try dsimp only
              try simp only [Act.put, List.getElem_toArray, List.getElem_cons_zero, List.getElem_cons_succ, List.setIfInBounds_toArray, List.set_cons_zero, List.set_cons_succ]
              refine wpAnyH_take (i := 23) (v := .bool false) rfl (by kernel_rfl) (by kernel_rfl) (by kernel_rfl) (fun _ _ _ h => h) (Or.inl ⟨by rfl, fun w _ => by go_simp⟩) hHeld ?_
              try dsimp only
              try simp only [Act.put, List.getElem_toArray, List.getElem_cons_zero, List.getElem_cons_succ, List.setIfInBounds_toArray, List.set_cons_zero, List.set_cons_succ]
              refine wpAnyH_take (i := 24) (v := .bool false) rfl (by kernel_rfl) (by kernel_rfl) (by kernel_rfl) (fun _ _ _ h => h) (Or.inl ⟨by rfl, fun _ _ => rfl⟩) hHeld ?_
              try dsimp only
              try simp only [Act.put, List.getElem_toArray, List.getElem_cons_zero, List.getElem_cons_succ, List.setIfInBounds_toArray, List.set_cons_zero, List.set_cons_succ]
              refine wpAnyH_take (i := 25) (v := .agg x.cells.toArray) rfl (by kernel_rfl) (by kernel_rfl) (by kernel_rfl) (fun _ _ _ h => h) (yieldsIf_load_mid rfl 38 (.tmp 14) rfl r0 (0) rfl x.cells _ (fun w hw => HX1.out w hw) uEvent rfl (iEvent x)) hHeld ?_
              try dsimp only
              try simp only [Act.put, List.getElem_toArray, List.getElem_cons_zero, List.getElem_cons_succ, List.setIfInBounds_toArray, List.set_cons_zero, List.set_cons_succ]
              refine wpAnyH_take (i := 26) (v := .slice (some ⟨gs, os, none⟩) i cs) rfl (by kernel_rfl) (by kernel_rfl) (by kernel_rfl) (fun _ _ _ h => h) (Or.inl ⟨by rfl, fun _ _ => rfl⟩) hHeld ?_
              try dsimp only
              try simp only [Act.put, List.getElem_toArray, List.getElem_cons_zero, List.getElem_cons_succ, List.setIfInBounds_toArray, List.set_cons_zero, List.set_cons_succ]
              refine wpAnyH_take (i := 27) (v := .int .i64 (win : Int)) rfl (by kernel_rfl) (by kernel_rfl) (by kernel_rfl) (fun _ _ _ h => h) (Or.inl ⟨by rfl, fun _ _ => rfl⟩) hHeld ?_
              try dsimp only
              try simp only [Act.put, List.getElem_toArray, List.getElem_cons_zero, List.getElem_cons_succ, List.setIfInBounds_toArray, List.set_cons_zero, List.set_cons_succ]
              refine wpAnyH_take (i := 28) (v := .pointer (some ⟨gs, os + win, none⟩)) rfl (by kernel_rfl) (by kernel_rfl) (by kernel_rfl) (fun _ _ _ h => h) (Or.inl ⟨by rfl, fun w _ => by go_simp⟩) hHeld ?_
              try dsimp only
              try simp only [Act.put, List.getElem_toArray, List.getElem_cons_zero, List.getElem_cons_succ, List.setIfInBounds_toArray, List.set_cons_zero, List.set_cons_succ]
              refine wpAnyH_take (i := 29) (v := .slice (some ⟨ge, oe, none⟩) m sc) rfl (by kernel_rfl) (by kernel_rfl) (by kernel_rfl) (fun _ _ _ h => h) (Or.inl ⟨by rfl, fun w hw => by have hc : w.cell? ⟨gs, os + win, none⟩ = some (.slice (some ⟨ge, oe, none⟩) m sc) := HC2.out w hw; go_simp⟩) hHeld ?_
              try dsimp only
              try simp only [Act.put, List.getElem_toArray, List.getElem_cons_zero, List.getElem_cons_succ, List.setIfInBounds_toArray, List.set_cons_zero, List.set_cons_succ]
              refine wpAnyH_take (i := 30) (v := .slice (some ⟨gat, 0, none⟩) i i) rfl (by kernel_rfl) (by kernel_rfl) (by kernel_rfl) (fun _ _ _ h => h) (Or.inl ⟨by rfl, fun _ _ => rfl⟩) hHeld ?_
              try dsimp only
              try simp only [Act.put, List.getElem_toArray, List.getElem_cons_zero, List.getElem_cons_succ, List.setIfInBounds_toArray, List.set_cons_zero, List.set_cons_succ]
              refine wpAnyH_take (i := 31) (v := .int .i64 (win : Int)) rfl (by kernel_rfl) (by kernel_rfl) (by kernel_rfl) (fun _ _ _ h => h) (Or.inl ⟨by rfl, fun _ _ => rfl⟩) hHeld ?_
              try dsimp only
              try simp only [Act.put, List.getElem_toArray, List.getElem_cons_zero, List.getElem_cons_succ, List.setIfInBounds_toArray, List.set_cons_zero, List.set_cons_succ]
              refine wpAnyH_take (i := 32) (v := .pointer (some ⟨gat, win, none⟩)) rfl (by kernel_rfl) (by kernel_rfl) (by kernel_rfl) (fun _ _ _ h => h) (Or.inl ⟨by rfl, fun w _ => by go_simp⟩) hHeld ?_
              try dsimp only
              try simp only [Act.put, List.getElem_toArray, List.getElem_cons_zero, List.getElem_cons_succ, List.setIfInBounds_toArray, List.set_cons_zero, List.set_cons_succ]
              refine wpAnyH_take (i := 33) (v := .int .i64 (f win : Int)) rfl (by kernel_rfl) (by kernel_rfl) (by kernel_rfl) (fun _ _ _ h => h) (Or.inl ⟨by rfl, fun w hw => by have hc : w.cell? ⟨gat, win, none⟩ = some (.int .i64 (f win : Int)) := HC1.out w hw; go_simp⟩) hHeld ?_
              try dsimp only
              try simp only [Act.put, List.getElem_toArray, List.getElem_cons_zero, List.getElem_cons_succ, List.setIfInBounds_toArray, List.set_cons_zero, List.set_cons_succ]
              refine wpAnyH_take (i := 34) (v := .pointer (some ⟨ge, oe + f win * 5, none⟩)) rfl (by kernel_rfl) (by kernel_rfl) (by kernel_rfl) (fun _ _ _ h => h) (Or.inl ⟨by rfl, fun w _ => by go_simp; try omega⟩) hHeld ?_
              try dsimp only
              try simp only [Act.put, List.getElem_toArray, List.getElem_cons_zero, List.getElem_cons_succ, List.setIfInBounds_toArray, List.set_cons_zero, List.set_cons_succ]
              refine wpAnyH_take (i := 35) (v := .agg x.cells.toArray) rfl (by kernel_rfl) (by kernel_rfl) (by kernel_rfl) (fun _ _ _ h => h) (yieldsIf_load_mid rfl 38 (.tmp 141) rfl ge (oe + f win * 5) rfl x.cells _ (fun w hw => HX2.out w hw) uEvent rfl (iEvent x)) hHeld ?_
              try dsimp only
              try simp only [Act.put, List.getElem_toArray, List.getElem_cons_zero, List.getElem_cons_succ, List.setIfInBounds_toArray, List.set_cons_zero, List.set_cons_succ]
              refine wpAnyH_ready (rs := [36]) (by kernel_rfl) (by simp) (AllReadyH.cons rfl (fun K hK => ?_) AllReadyH.nil)
              rw [if_pos (by rfl)]
              go_simp
              refine (refEvSame_any x x HVX.out HVX.out _).mono ?_
              rintro e w9 ⟨rfl, hb9⟩
              rw [sameB_reflM]
              refine hK.out _ _ (bto hHeld hb9) (fun hHeld => ?_)
              clear hK K
              try dsimp only
              try simp only [Act.put, List.getElem_toArray, List.getElem_cons_zero, List.getElem_cons_succ, List.setIfInBounds_toArray, List.set_cons_zero, List.set_cons_succ]
              refine wpAnyH_take (i := 37) (v := .bool false) rfl (by kernel_rfl) (by kernel_rfl) (by kernel_rfl) (fun _ _ _ h => h) (Or.inl ⟨by rfl, fun w _ => by go_simp⟩) hHeld ?_
              try dsimp only
              try simp only [Act.put, List.getElem_toArray, List.getElem_cons_zero, List.getElem_cons_succ, List.setIfInBounds_toArray, List.set_cons_zero, List.set_cons_succ]
              refine wpAnyH_take (i := 38) (v := .bool false) rfl (by kernel_rfl) (by kernel_rfl) (by kernel_rfl) (fun _ _ _ h => h) (Or.inl ⟨by rfl, fun w _ => by go_simp⟩) hHeld ?_
              try dsimp only
              try simp only [Act.put, List.getElem_toArray, List.getElem_cons_zero, List.getElem_cons_succ, List.setIfInBounds_toArray, List.set_cons_zero, List.set_cons_succ]
              refine wpAnyH_take (i := 39) (v := .bool false) rfl (by kernel_rfl) (by kernel_rfl) (by kernel_rfl) (fun _ _ _ h => h) (Or.inl ⟨by rfl, fun _ _ => rfl⟩) hHeld ?_
              try dsimp only
              try simp only [Act.put, List.getElem_toArray, List.getElem_cons_zero, List.getElem_cons_succ, List.setIfInBounds_toArray, List.set_cons_zero, List.set_cons_succ]
              refine wpAnyH_take (i := 40) (v := .agg x.cells.toArray) rfl (by kernel_rfl) (by kernel_rfl) (by kernel_rfl) (fun _ _ _ h => h) (yieldsIf_load_mid rfl 38 (.tmp 14) rfl r0 (0) rfl x.cells _ (fun w hw => HX1.out w hw) uEvent rfl (iEvent x)) hHeld ?_
              try dsimp only
              try simp only [Act.put, List.getElem_toArray, List.getElem_cons_zero, List.getElem_cons_succ, List.setIfInBounds_toArray, List.set_cons_zero, List.set_cons_succ]
              refine wpAnyH_take (i := 41) (v := .slice (some ⟨gw, ow, none⟩) k cw) rfl (by kernel_rfl) (by kernel_rfl) (by kernel_rfl) (fun _ _ _ h => h) (Or.inl ⟨by rfl, fun _ _ => rfl⟩) hHeld ?_
              try dsimp only
              try simp only [Act.put, List.getElem_toArray, List.getElem_cons_zero, List.getElem_cons_succ, List.setIfInBounds_toArray, List.set_cons_zero, List.set_cons_succ]
              refine wpAnyH_take (i := 42) (v := .int .i64 (p : Int)) rfl (by kernel_rfl) (by kernel_rfl) (by kernel_rfl) (fun _ _ _ h => h) (Or.inl ⟨by rfl, fun _ _ => rfl⟩) hHeld ?_
              try dsimp only
              try simp only [Act.put, List.getElem_toArray, List.getElem_cons_zero, List.getElem_cons_succ, List.setIfInBounds_toArray, List.set_cons_zero, List.set_cons_succ]
              refine wpAnyH_take (i := 43) (v := .pointer (some ⟨gw, ow + p * 5, none⟩)) rfl (by kernel_rfl) (by kernel_rfl) (by kernel_rfl) (fun _ _ _ h => h) (Or.inl ⟨by rfl, fun w _ => by go_simp; try omega⟩) hHeld ?_
              try dsimp only
              try simp only [Act.put, List.getElem_toArray, List.getElem_cons_zero, List.getElem_cons_succ, List.setIfInBounds_toArray, List.set_cons_zero, List.set_cons_succ]
              refine wpAnyH_take (i := 44) (v := .agg x.cells.toArray) rfl (by kernel_rfl) (by kernel_rfl) (by kernel_rfl) (fun _ _ _ h => h) (yieldsIf_load_mid rfl 38 (.tmp 150) rfl gw (ow + p * 5) rfl x.cells _ (fun w hw => HX3.out w hw) uEvent rfl (iEvent x)) hHeld ?_
              try dsimp only
              try simp only [Act.put, List.getElem_toArray, List.getElem_cons_zero, List.getElem_cons_succ, List.setIfInBounds_toArray, List.set_cons_zero, List.set_cons_succ]
              refine wpAnyH_ready (rs := [45]) (by kernel_rfl) (by simp) (AllReadyH.cons rfl (fun K hK => ?_) AllReadyH.nil)
              rw [if_pos (by rfl)]
              go_simp
              refine (refEvSame_any x x HVX.out HVX.out _).mono ?_
              rintro e w9 ⟨rfl, hb9⟩
              rw [sameB_reflM]
              refine hK.out _ _ (bto hHeld hb9) (fun hHeld => ?_)
              clear hK K
              try dsimp only
              try simp only [Act.put, List.getElem_toArray, List.getElem_cons_zero, List.getElem_cons_succ, List.setIfInBounds_toArray, List.set_cons_zero, List.set_cons_succ]
              refine wpAnyH_take (i := 46) (v := .bool false) rfl (by kernel_rfl) (by kernel_rfl) (by kernel_rfl) (fun _ _ _ h => h) (Or.inl ⟨by rfl, fun w _ => by go_simp⟩) hHeld ?_
              try dsimp only
              try simp only [Act.put, List.getElem_toArray, List.getElem_cons_zero, List.getElem_cons_succ, List.setIfInBounds_toArray, List.set_cons_zero, List.set_cons_succ]
              refine wpAnyH_ready (rs := [47]) (by kernel_rfl) (by simp) (AllReadyH.cons rfl (fun K hK => ?_) AllReadyH.nil)
              go_simp
              refine hK.out _ _ hHeld (fun hHeld => ?_)
              clear hK K
              refine wpAnyH_done (by kernel_rfl) ?_ _
              obtain ⟨w10, rfl⟩ : ∃ w10, w10 = w9 := ⟨_, rfl⟩
              have HB10 := Lib.hid hHeld
              clear hHeld hh0
              have HK3 : Hid (K3m w10 win (.int .i64 0) w10) := Lib.hid ⟨0, Nat.zero_le _, rfl, Below.refl _ _⟩
              go_wp2
              go_loopw [17] (fun v wr => K3m w10 win v wr) (fun v _ => win - (intOf v).toNat)
              case atStart => exact HK3.out
              case round =>
                obtain ⟨q, hq, rfl, hb⟩ := hrel
                have HBR : Hid (Below w7.heap.size w7 wr) := Lib.hid (bto HB10.out hb)
                have HBL := Lib.hid hb
                have HAR : Hid (AtRow wr gat i f) := Lib.hid (HAT7.out.of (HBR.out.block gat HAT7.out.lt))
                have HKR : Hid (Kept (At4 t rb lb gat) wq wr) := Lib.hid (HK7.out.trans (Kept.of_below HBR.out))
                clear hb HK3
                by_cases hqw : q < win
                · obtain ⟨l2, g1, g2, g3⟩ := HLF.out.ahead q win hqw hwin (HBEST.out q (by omega)) x xs HRR.out
                  obtain ⟨s2, hs2, hsl2⟩ : ∃ s, SS[q]? = some s ∧ s.l = l2 := by
                    unfold slL at g1; rw [List.getElem?_map] at g1
                    rcases h : SS[q]? with _ | s
                    · rw [h] at g1; cases g1
                    · rw [h] at g1; injection g1 with g1; exact ⟨s, rfl, g1⟩
                  subst hsl2
                  obtain ⟨m2, hm2⟩ : ∃ m2, m2 = s2.l.length := ⟨_, rfl⟩
                  have hqi : (q : Int) < (i : Int) := by omega
                  have hqwi : (q : Int) < (win : Int) := by omega
                  have HD1 : Hid (∀ w, Below wr.heap.size wr w → w.cell? ⟨gat, q, none⟩ = some (.int .i64 (f q : Int))) := Lib.hid fun w h => (HAR.out.of (h.block gat HAR.out.lt)).cell (by omega)
                  have HY1 : Hid (∀ w, Below wr.heap.size wr w → w.rangeAt r0 0 x.cells) := Lib.hid fun w h => HX1.out w (bto HBR.out h)
                  have hh0 : Below wr.heap.size wr wr.drew := (Below.refl _ _).drew
                  by_cases hfq : f q < m2
                  · obtain ⟨y, hy⟩ : ∃ y, s2.l[f q]? = some y := ⟨_, List.getElem?_eq_getElem (by omega)⟩
                    have HXY := Lib.hid (g3 y hy)
                    obtain ⟨ge2, oe2, hSE2, hre2⟩ := RDE.out s2 (List.mem_of_getElem? hs2) (f q) y hy
                    have hsv : s2.v = .slice (some ⟨ge2, oe2, none⟩) m2 s2.c := by unfold Sl.v; rw [hSE2, hm2]
                    obtain ⟨sc2, hsc2⟩ : ∃ z, z = s2.c := ⟨_, rfl⟩
                    rw [← hsc2] at hsv
                    have HD2 : Hid (∀ w, Below wr.heap.size wr w → w.cell? ⟨gs, os + q, none⟩ = some (.slice (some ⟨ge2, oe2, none⟩) m2 sc2)) := Lib.hid fun w h => by rw [RDS.out w (HKR.out.trans (Kept.of_below h)) q _ hs2, hsv]
                    have HX4 : Hid (∀ w, Below wr.heap.size wr w → w.rangeAt ge2 (oe2 + f q * 5) y.cells) := Lib.hid fun w h => hre2 w (HKR.out.trans (Kept.of_below h))
                    have hfqi : (f q : Int) < (m2 : Int) := by omega
                    clear g1 g2 g3 hy hre2 hSE2 hsv hsc2 hm2 hs2
                    go_upto_region 28 with fail
                    refine wp_region_held_drew (S := fun w2 => Below wr.heap.size wr w2) (by kernel_rfl) hh0 (fun hHeld => ?_)
                    refine wpAnyH_take (i := 0) (v := .slice (some ⟨gat, 0, none⟩) i i) rfl (by kernel_rfl) (by kernel_rfl) (by kernel_rfl) (fun _ _ _ h => h) (Or.inl ⟨by rfl, fun _ _ => rfl⟩) hHeld ?_
                    try dsimp only
                    try simp only [Act.put, List.getElem_toArray, List.getElem_cons_zero, List.getElem_cons_succ, List.setIfInBounds_toArray, List.set_cons_zero, List.set_cons_succ]
                    refine wpAnyH_take (i := 1) (v := .int .i64 (q : Int)) rfl (by kernel_rfl) (by kernel_rfl) (by kernel_rfl) (fun _ _ _ h => h) (Or.inl ⟨by rfl, fun _ _ => rfl⟩) hHeld ?_
                    try dsimp only
                    try simp only [Act.put, List.getElem_toArray, List.getElem_cons_zero, List.getElem_cons_succ, List.setIfInBounds_toArray, List.set_cons_zero, List.set_cons_succ]
                    refine wpAnyH_take (i := 2) (v := .pointer (some ⟨gat, q, none⟩)) rfl (by kernel_rfl) (by kernel_rfl) (by kernel_rfl) (fun _ _ _ h => h) (Or.inl ⟨by rfl, fun w _ => by go_simp⟩) hHeld ?_
                    try dsimp only
                    try simp only [Act.put, List.getElem_toArray, List.getElem_cons_zero, List.getElem_cons_succ, List.setIfInBounds_toArray, List.set_cons_zero, List.set_cons_succ]
                    refine wpAnyH_take (i := 3) (v := .int .i64 (f q : Int)) rfl (by kernel_rfl) (by kernel_rfl) (by kernel_rfl) (fun _ _ _ h => h) (Or.inl ⟨by rfl, fun w hw => by have hc : w.cell? ⟨gat, q, none⟩ = some (.int .i64 (f q : Int)) := HD1.out w hw; go_simp⟩) hHeld ?_
                    try dsimp only
                    try simp only [Act.put, List.getElem_toArray, List.getElem_cons_zero, List.getElem_cons_succ, List.setIfInBounds_toArray, List.set_cons_zero, List.set_cons_succ]
                    refine wpAnyH_take (i := 4) (v := .slice (some ⟨gs, os, none⟩) i cs) rfl (by kernel_rfl) (by kernel_rfl) (by kernel_rfl) (fun _ _ _ h => h) (Or.inl ⟨by rfl, fun _ _ => rfl⟩) hHeld ?_
                    try dsimp only
                    try simp only [Act.put, List.getElem_toArray, List.getElem_cons_zero, List.getElem_cons_succ, List.setIfInBounds_toArray, List.set_cons_zero, List.set_cons_succ]
                    refine wpAnyH_take (i := 5) (v := .int .i64 (q : Int)) rfl (by kernel_rfl) (by kernel_rfl) (by kernel_rfl) (fun _ _ _ h => h) (Or.inl ⟨by rfl, fun _ _ => rfl⟩) hHeld ?_
                    try dsimp only
                    try simp only [Act.put, List.getElem_toArray, List.getElem_cons_zero, List.getElem_cons_succ, List.setIfInBounds_toArray, List.set_cons_zero, List.set_cons_succ]
                    refine wpAnyH_take (i := 6) (v := .pointer (some ⟨gs, os + q, none⟩)) rfl (by kernel_rfl) (by kernel_rfl) (by kernel_rfl) (fun _ _ _ h => h) (Or.inl ⟨by rfl, fun w _ => by go_simp⟩) hHeld ?_
                    try dsimp only
                    try simp only [Act.put, List.getElem_toArray, List.getElem_cons_zero, List.getElem_cons_succ, List.setIfInBounds_toArray, List.set_cons_zero, List.set_cons_succ]
                    refine wpAnyH_take (i := 7) (v := .slice (some ⟨ge2, oe2, none⟩) m2 sc2) rfl (by kernel_rfl) (by kernel_rfl) (by kernel_rfl) (fun _ _ _ h => h) (Or.inl ⟨by rfl, fun w hw => by have hc : w.cell? ⟨gs, os + q, none⟩ = some (.slice (some ⟨ge2, oe2, none⟩) m2 sc2) := HD2.out w hw; go_simp⟩) hHeld ?_
                    try dsimp only
                    try simp only [Act.put, List.getElem_toArray, List.getElem_cons_zero, List.getElem_cons_succ, List.setIfInBounds_toArray, List.set_cons_zero, List.set_cons_succ]
                    refine wpAnyH_take (i := 8) (v := .int .i64 (m2 : Int)) rfl (by kernel_rfl) (by kernel_rfl) (by kernel_rfl) (fun _ _ _ h => h) (yb_lenE rfl (.tmp 167) rfl _ _ _ rfl) hHeld ?_
                    try dsimp only
                    try simp only [Act.put, List.getElem_toArray, List.getElem_cons_zero, List.getElem_cons_succ, List.setIfInBounds_toArray, List.set_cons_zero, List.set_cons_succ]
                    refine wpAnyH_take (i := 9) (v := .bool true) rfl (by kernel_rfl) (by kernel_rfl) (by kernel_rfl) (fun _ _ _ h => h) (Or.inl ⟨by rfl, fun w _ => by go_simp; try omega⟩) hHeld ?_
                    try dsimp only
                    try simp only [Act.put, List.getElem_toArray, List.getElem_cons_zero, List.getElem_cons_succ, List.setIfInBounds_toArray, List.set_cons_zero, List.set_cons_succ]
                    refine wpAnyH_take (i := 10) (v := .bool true) rfl (by kernel_rfl) (by kernel_rfl) (by kernel_rfl) (fun _ _ _ h => h) (Or.inl ⟨by rfl, fun _ _ => rfl⟩) hHeld ?_
                    try dsimp only
                    try simp only [Act.put, List.getElem_toArray, List.getElem_cons_zero, List.getElem_cons_succ, List.setIfInBounds_toArray, List.set_cons_zero, List.set_cons_succ]
                    refine wpAnyH_take (i := 11) (v := .agg x.cells.toArray) rfl (by kernel_rfl) (by kernel_rfl) (by kernel_rfl) (fun _ _ _ h => h) (yieldsIf_load_mid rfl 38 (.tmp 14) rfl r0 (0) rfl x.cells _ (fun w hw => HY1.out w hw) uEvent rfl (iEvent x)) hHeld ?_
                    try dsimp only
                    try simp only [Act.put, List.getElem_toArray, List.getElem_cons_zero, List.getElem_cons_succ, List.setIfInBounds_toArray, List.set_cons_zero, List.set_cons_succ]
                    refine wpAnyH_take (i := 12) (v := .slice (some ⟨gs, os, none⟩) i cs) rfl (by kernel_rfl) (by kernel_rfl) (by kernel_rfl) (fun _ _ _ h => h) (Or.inl ⟨by rfl, fun _ _ => rfl⟩) hHeld ?_
                    try dsimp only
                    try simp only [Act.put, List.getElem_toArray, List.getElem_cons_zero, List.getElem_cons_succ, List.setIfInBounds_toArray, List.set_cons_zero, List.set_cons_succ]
                    refine wpAnyH_take (i := 13) (v := .int .i64 (q : Int)) rfl (by kernel_rfl) (by kernel_rfl) (by kernel_rfl) (fun _ _ _ h => h) (Or.inl ⟨by rfl, fun _ _ => rfl⟩) hHeld ?_
                    try dsimp only
                    try simp only [Act.put, List.getElem_toArray, List.getElem_cons_zero, List.getElem_cons_succ, List.setIfInBounds_toArray, List.set_cons_zero, List.set_cons_succ]
                    refine wpAnyH_take (i := 14) (v := .pointer (some ⟨gs, os + q, none⟩)) rfl (by kernel_rfl) (by kernel_rfl) (by kernel_rfl) (fun _ _ _ h => h) (Or.inl ⟨by rfl, fun w _ => by go_simp⟩) hHeld ?_
                    try dsimp only
                    try simp only [Act.put, List.getElem_toArray, List.getElem_cons_zero, List.getElem_cons_succ, List.setIfInBounds_toArray, List.set_cons_zero, List.set_cons_succ]
                    refine wpAnyH_take (i := 15) (v := .slice (some ⟨ge2, oe2, none⟩) m2 sc2) rfl (by kernel_rfl) (by kernel_rfl) (by kernel_rfl) (fun _ _ _ h => h) (Or.inl ⟨by rfl, fun w hw => by have hc : w.cell? ⟨gs, os + q, none⟩ = some (.slice (some ⟨ge2, oe2, none⟩) m2 sc2) := HD2.out w hw; go_simp⟩) hHeld ?_
                    try dsimp only
                    try simp only [Act.put, List.getElem_toArray, List.getElem_cons_zero, List.getElem_cons_succ, List.setIfInBounds_toArray, List.set_cons_zero, List.set_cons_succ]
                    refine wpAnyH_take (i := 16) (v := .slice (some ⟨gat, 0, none⟩) i i) rfl (by kernel_rfl) (by kernel_rfl) (by kernel_rfl) (fun _ _ _ h => h) (Or.inl ⟨by rfl, fun _ _ => rfl⟩) hHeld ?_
                    try dsimp only
                    try simp only [Act.put, List.getElem_toArray, List.getElem_cons_zero, List.getElem_cons_succ, List.setIfInBounds_toArray, List.set_cons_zero, List.set_cons_succ]
                    refine wpAnyH_take (i := 17) (v := .int .i64 (q : Int)) rfl (by kernel_rfl) (by kernel_rfl) (by kernel_rfl) (fun _ _ _ h => h) (Or.inl ⟨by rfl, fun _ _ => rfl⟩) hHeld ?_
                    try dsimp only
                    try simp only [Act.put, List.getElem_toArray, List.getElem_cons_zero, List.getElem_cons_succ, List.setIfInBounds_toArray, List.set_cons_zero, List.set_cons_succ]
                    refine wpAnyH_take (i := 18) (v := .pointer (some ⟨gat, q, none⟩)) rfl (by kernel_rfl) (by kernel_rfl) (by kernel_rfl) (fun _ _ _ h => h) (Or.inl ⟨by rfl, fun w _ => by go_simp⟩) hHeld ?_
                    try dsimp only
                    try simp only [Act.put, List.getElem_toArray, List.getElem_cons_zero, List.getElem_cons_succ, List.setIfInBounds_toArray, List.set_cons_zero, List.set_cons_succ]
                    refine wpAnyH_take (i := 19) (v := .int .i64 (f q : Int)) rfl (by kernel_rfl) (by kernel_rfl) (by kernel_rfl) (fun _ _ _ h => h) (Or.inl ⟨by rfl, fun w hw => by have hc : w.cell? ⟨gat, q, none⟩ = some (.int .i64 (f q : Int)) := HD1.out w hw; go_simp⟩) hHeld ?_
                    try dsimp only
                    try simp only [Act.put, List.getElem_toArray, List.getElem_cons_zero, List.getElem_cons_succ, List.setIfInBounds_toArray, List.set_cons_zero, List.set_cons_succ]
                    refine wpAnyH_take (i := 20) (v := .pointer (some ⟨ge2, oe2 + f q * 5, none⟩)) rfl (by kernel_rfl) (by kernel_rfl) (by kernel_rfl) (fun _ _ _ h => h) (Or.inl ⟨by rfl, fun w _ => by go_simp; try omega⟩) hHeld ?_
                    try dsimp only
                    try simp only [Act.put, List.getElem_toArray, List.getElem_cons_zero, List.getElem_cons_succ, List.setIfInBounds_toArray, List.set_cons_zero, List.set_cons_succ]
                    refine wpAnyH_take (i := 21) (v := .agg y.cells.toArray) rfl (by kernel_rfl) (by kernel_rfl) (by kernel_rfl) (fun _ _ _ h => h) (yieldsIf_load_mid rfl 38 (.tmp 180) rfl ge2 (oe2 + f q * 5) rfl y.cells _ (fun w hw => HX4.out w hw) uEvent rfl (iEvent y)) hHeld ?_
                    try dsimp only
                    try simp only [Act.put, List.getElem_toArray, List.getElem_cons_zero, List.getElem_cons_succ, List.setIfInBounds_toArray, List.set_cons_zero, List.set_cons_succ]
                    refine wpAnyH_ready (rs := [22]) (by kernel_rfl) (by simp) (AllReadyH.cons rfl (fun K hK => ?_) AllReadyH.nil)
                    rw [if_pos (by rfl)]
                    go_simp
                    refine (evBefore_any x y _).mono ?_
                    rintro e w9 ⟨rfl, hg9⟩
                    have hb9 := hg9.below
                    rw [HXY.out]
                    refine hK.out _ _ (bto hHeld hb9) (fun hHeld => ?_)
                    clear hK K
                    try dsimp only
                    try simp only [Act.put, List.getElem_toArray, List.getElem_cons_zero, List.getElem_cons_succ, List.setIfInBounds_toArray, List.set_cons_zero, List.set_cons_succ]
                    refine wpAnyH_take (i := 23) (v := .bool false) rfl (by kernel_rfl) (by kernel_rfl) (by kernel_rfl) (fun _ _ _ h => h) (Or.inl ⟨by rfl, fun w _ => by go_simp⟩) hHeld ?_
                    try dsimp only
                    try simp only [Act.put, List.getElem_toArray, List.getElem_cons_zero, List.getElem_cons_succ, List.setIfInBounds_toArray, List.set_cons_zero, List.set_cons_succ]
                    refine wpAnyH_ready (rs := [24]) (by kernel_rfl) (by simp) (AllReadyH.cons rfl (fun K hK => ?_) AllReadyH.nil)
                    go_simp
                    refine hK.out _ _ hHeld (fun hHeld => ?_)
                    clear hK K
                    refine wpAnyH_done (by kernel_rfl) ?_ _
                    have HB9 := Lib.hid (bto HBL.out hHeld)
                    clear hHeld hh0
                    go_wp2
                    go_roundw
                    case rel => exact ⟨q + 1, by omega, by go_num, HB9.out⟩
                    case measure => simp [intOf]; omega
                  · have hfqi : ¬ (f q : Int) < (m2 : Int) := by omega
                    obtain ⟨S2, hS2⟩ : ∃ z, z = s2.A := ⟨_, rfl⟩
                    obtain ⟨sc2, hsc2⟩ : ∃ z, z = s2.c := ⟨_, rfl⟩
                    have HD2 : Hid (∀ w, Below wr.heap.size wr w → w.cell? ⟨gs, os + q, none⟩ = some (.slice S2 m2 sc2)) := Lib.hid fun w h => by rw [RDS.out w (HKR.out.trans (Kept.of_below h)) q _ hs2, hS2, hm2, hsc2]; rfl
                    clear g1 g2 g3 hS2 hsc2 hm2 hs2
                    go_upto_region 28 with fail
                    refine wp_region_held_drew (S := fun w2 => Below wr.heap.size wr w2) (by kernel_rfl) hh0 (fun hHeld => ?_)
                    refine wpAnyH_take (i := 0) (v := .slice (some ⟨gat, 0, none⟩) i i) rfl (by kernel_rfl) (by kernel_rfl) (by kernel_rfl) (fun _ _ _ h => h) (Or.inl ⟨by rfl, fun _ _ => rfl⟩) hHeld ?_
                    try dsimp only
                    try simp only [Act.put, List.getElem_toArray, List.getElem_cons_zero, List.getElem_cons_succ, List.setIfInBounds_toArray, List.set_cons_zero, List.set_cons_succ]
                    refine wpAnyH_take (i := 1) (v := .int .i64 (q : Int)) rfl (by kernel_rfl) (by kernel_rfl) (by kernel_rfl) (fun _ _ _ h => h) (Or.inl ⟨by rfl, fun _ _ => rfl⟩) hHeld ?_
                    try dsimp only
                    try simp only [Act.put, List.getElem_toArray, List.getElem_cons_zero, List.getElem_cons_succ, List.setIfInBounds_toArray, List.set_cons_zero, List.set_cons_succ]
                    refine wpAnyH_take (i := 2) (v := .pointer (some ⟨gat, q, none⟩)) rfl (by kernel_rfl) (by kernel_rfl) (by kernel_rfl) (fun _ _ _ h => h) (Or.inl ⟨by rfl, fun w _ => by go_simp⟩) hHeld ?_
                    try dsimp only
                    try simp only [Act.put, List.getElem_toArray, List.getElem_cons_zero, List.getElem_cons_succ, List.setIfInBounds_toArray, List.set_cons_zero, List.set_cons_succ]
                    refine wpAnyH_take (i := 3) (v := .int .i64 (f q : Int)) rfl (by kernel_rfl) (by kernel_rfl) (by kernel_rfl) (fun _ _ _ h => h) (Or.inl ⟨by rfl, fun w hw => by have hc : w.cell? ⟨gat, q, none⟩ = some (.int .i64 (f q : Int)) := HD1.out w hw; go_simp⟩) hHeld ?_
                    try dsimp only
                    try simp only [Act.put, List.getElem_toArray, List.getElem_cons_zero, List.getElem_cons_succ, List.setIfInBounds_toArray, List.set_cons_zero, List.set_cons_succ]
                    refine wpAnyH_take (i := 4) (v := .slice (some ⟨gs, os, none⟩) i cs) rfl (by kernel_rfl) (by kernel_rfl) (by kernel_rfl) (fun _ _ _ h => h) (Or.inl ⟨by rfl, fun _ _ => rfl⟩) hHeld ?_
                    try dsimp only
                    try simp only [Act.put, List.getElem_toArray, List.getElem_cons_zero, List.getElem_cons_succ, List.setIfInBounds_toArray, List.set_cons_zero, List.set_cons_succ]
                    refine wpAnyH_take (i := 5) (v := .int .i64 (q : Int)) rfl (by kernel_rfl) (by kernel_rfl) (by kernel_rfl) (fun _ _ _ h => h) (Or.inl ⟨by rfl, fun _ _ => rfl⟩) hHeld ?_
                    try dsimp only
                    try simp only [Act.put, List.getElem_toArray, List.getElem_cons_zero, List.getElem_cons_succ, List.setIfInBounds_toArray, List.set_cons_zero, List.set_cons_succ]
                    refine wpAnyH_take (i := 6) (v := .pointer (some ⟨gs, os + q, none⟩)) rfl (by kernel_rfl) (by kernel_rfl) (by kernel_rfl) (fun _ _ _ h => h) (Or.inl ⟨by rfl, fun w _ => by go_simp⟩) hHeld ?_
                    try dsimp only
                    try simp only [Act.put, List.getElem_toArray, List.getElem_cons_zero, List.getElem_cons_succ, List.setIfInBounds_toArray, List.set_cons_zero, List.set_cons_succ]
                    refine wpAnyH_take (i := 7) (v := .slice S2 m2 sc2) rfl (by kernel_rfl) (by kernel_rfl) (by kernel_rfl) (fun _ _ _ h => h) (Or.inl ⟨by rfl, fun w hw => by have hc : w.cell? ⟨gs, os + q, none⟩ = some (.slice S2 m2 sc2) := HD2.out w hw; go_simp⟩) hHeld ?_
                    try dsimp only
                    try simp only [Act.put, List.getElem_toArray, List.getElem_cons_zero, List.getElem_cons_succ, List.setIfInBounds_toArray, List.set_cons_zero, List.set_cons_succ]
                    refine wpAnyH_take (i := 8) (v := .int .i64 (m2 : Int)) rfl (by kernel_rfl) (by kernel_rfl) (by kernel_rfl) (fun _ _ _ h => h) (yb_lenE rfl (.tmp 167) rfl _ _ _ rfl) hHeld ?_
                    try dsimp only
                    try simp only [Act.put, List.getElem_toArray, List.getElem_cons_zero, List.getElem_cons_succ, List.setIfInBounds_toArray, List.set_cons_zero, List.set_cons_succ]
                    refine wpAnyH_take (i := 9) (v := .bool false) rfl (by kernel_rfl) (by kernel_rfl) (by kernel_rfl) (fun _ _ _ h => h) (Or.inl ⟨by rfl, fun w _ => by go_simp; try omega⟩) hHeld ?_
                    try dsimp only
                    try simp only [Act.put, List.getElem_toArray, List.getElem_cons_zero, List.getElem_cons_succ, List.setIfInBounds_toArray, List.set_cons_zero, List.set_cons_succ]
                    refine wpAnyH_take (i := 10) (v := .bool false) rfl (by kernel_rfl) (by kernel_rfl) (by kernel_rfl) (fun _ _ _ h => h) (Or.inl ⟨by rfl, fun _ _ => rfl⟩) hHeld ?_
                    try dsimp only
                    try simp only [Act.put, List.getElem_toArray, List.getElem_cons_zero, List.getElem_cons_succ, List.setIfInBounds_toArray, List.set_cons_zero, List.set_cons_succ]
                    refine wpAnyH_take (i := 11) (v := undef) rfl (by kernel_rfl) (by kernel_rfl) (by kernel_rfl) (fun _ _ _ h => h) (Or.inr ⟨by rfl, rfl⟩) hHeld ?_
                    try dsimp only
                    try simp only [Act.put, List.getElem_toArray, List.getElem_cons_zero, List.getElem_cons_succ, List.setIfInBounds_toArray, List.set_cons_zero, List.set_cons_succ]
                    refine wpAnyH_take (i := 12) (v := undef) rfl (by kernel_rfl) (by kernel_rfl) (by kernel_rfl) (fun _ _ _ h => h) (Or.inr ⟨by rfl, rfl⟩) hHeld ?_
                    try dsimp only
                    try simp only [Act.put, List.getElem_toArray, List.getElem_cons_zero, List.getElem_cons_succ, List.setIfInBounds_toArray, List.set_cons_zero, List.set_cons_succ]
                    refine wpAnyH_take (i := 13) (v := undef) rfl (by kernel_rfl) (by kernel_rfl) (by kernel_rfl) (fun _ _ _ h => h) (Or.inr ⟨by rfl, rfl⟩) hHeld ?_
                    try dsimp only
                    try simp only [Act.put, List.getElem_toArray, List.getElem_cons_zero, List.getElem_cons_succ, List.setIfInBounds_toArray, List.set_cons_zero, List.set_cons_succ]
                    refine wpAnyH_take (i := 14) (v := undef) rfl (by kernel_rfl) (by kernel_rfl) (by kernel_rfl) (fun _ _ _ h => h) (Or.inr ⟨by rfl, rfl⟩) hHeld ?_
                    try dsimp only
                    try simp only [Act.put, List.getElem_toArray, List.getElem_cons_zero, List.getElem_cons_succ, List.setIfInBounds_toArray, List.set_cons_zero, List.set_cons_succ]
                    refine wpAnyH_take (i := 15) (v := undef) rfl (by kernel_rfl) (by kernel_rfl) (by kernel_rfl) (fun _ _ _ h => h) (Or.inr ⟨by rfl, rfl⟩) hHeld ?_
                    try dsimp only
                    try simp only [Act.put, List.getElem_toArray, List.getElem_cons_zero, List.getElem_cons_succ, List.setIfInBounds_toArray, List.set_cons_zero, List.set_cons_succ]
                    refine wpAnyH_take (i := 16) (v := undef) rfl (by kernel_rfl) (by kernel_rfl) (by kernel_rfl) (fun _ _ _ h => h) (Or.inr ⟨by rfl, rfl⟩) hHeld ?_
                    try dsimp only
                    try simp only [Act.put, List.getElem_toArray, List.getElem_cons_zero, List.getElem_cons_succ, List.setIfInBounds_toArray, List.set_cons_zero, List.set_cons_succ]
                    refine wpAnyH_take (i := 17) (v := undef) rfl (by kernel_rfl) (by kernel_rfl) (by kernel_rfl) (fun _ _ _ h => h) (Or.inr ⟨by rfl, rfl⟩) hHeld ?_
                    try dsimp only
                    try simp only [Act.put, List.getElem_toArray, List.getElem_cons_zero, List.getElem_cons_succ, List.setIfInBounds_toArray, List.set_cons_zero, List.set_cons_succ]
                    refine wpAnyH_take (i := 18) (v := undef) rfl (by kernel_rfl) (by kernel_rfl) (by kernel_rfl) (fun _ _ _ h => h) (Or.inr ⟨by rfl, rfl⟩) hHeld ?_
                    try dsimp only
                    try simp only [Act.put, List.getElem_toArray, List.getElem_cons_zero, List.getElem_cons_succ, List.setIfInBounds_toArray, List.set_cons_zero, List.set_cons_succ]
                    refine wpAnyH_take (i := 19) (v := undef) rfl (by kernel_rfl) (by kernel_rfl) (by kernel_rfl) (fun _ _ _ h => h) (Or.inr ⟨by rfl, rfl⟩) hHeld ?_
                    try dsimp only
                    try simp only [Act.put, List.getElem_toArray, List.getElem_cons_zero, List.getElem_cons_succ, List.setIfInBounds_toArray, List.set_cons_zero, List.set_cons_succ]
                    refine wpAnyH_take (i := 20) (v := undef) rfl (by kernel_rfl) (by kernel_rfl) (by kernel_rfl) (fun _ _ _ h => h) (Or.inr ⟨by rfl, rfl⟩) hHeld ?_
                    try dsimp only
                    try simp only [Act.put, List.getElem_toArray, List.getElem_cons_zero, List.getElem_cons_succ, List.setIfInBounds_toArray, List.set_cons_zero, List.set_cons_succ]
                    refine wpAnyH_take (i := 21) (v := undef) rfl (by kernel_rfl) (by kernel_rfl) (by kernel_rfl) (fun _ _ _ h => h) (Or.inr ⟨by rfl, rfl⟩) hHeld ?_
                    try dsimp only
                    try simp only [Act.put, List.getElem_toArray, List.getElem_cons_zero, List.getElem_cons_succ, List.setIfInBounds_toArray, List.set_cons_zero, List.set_cons_succ]
                    refine wpAnyH_take (i := 22) (v := undef) rfl (by kernel_rfl) (by kernel_rfl) (by kernel_rfl) (fun _ _ _ h => h) (Or.inr ⟨by rfl, rfl⟩) hHeld ?_
                    try dsimp only
                    try simp only [Act.put, List.getElem_toArray, List.getElem_cons_zero, List.getElem_cons_succ, List.setIfInBounds_toArray, List.set_cons_zero, List.set_cons_succ]
                    refine wpAnyH_take (i := 23) (v := undef) rfl (by kernel_rfl) (by kernel_rfl) (by kernel_rfl) (fun _ _ _ h => h) (Or.inr ⟨by rfl, rfl⟩) hHeld ?_
                    try dsimp only
                    try simp only [Act.put, List.getElem_toArray, List.getElem_cons_zero, List.getElem_cons_succ, List.setIfInBounds_toArray, List.set_cons_zero, List.set_cons_succ]
                    refine wpAnyH_ready (rs := [24]) (by kernel_rfl) (by simp) (AllReadyH.cons rfl (fun K hK => ?_) AllReadyH.nil)
                    go_simp
                    refine hK.out _ _ hHeld (fun hHeld => ?_)
                    clear hK K
                    refine wpAnyH_done (by kernel_rfl) ?_ _
                    have HB9 := Lib.hid (bto HBL.out hHeld)
                    clear hHeld hh0
                    go_wp2
                    go_roundw
                    case rel => exact ⟨q + 1, by omega, by go_num, HB9.out⟩
                    case measure => simp [intOf]; omega
                · obtain rfl : q = win := by omega
                  have hqq : ¬ (q : Int) < (q : Int) := by omega
                  have hc30 := HAR.out.cell hwin
                  have hf30 := HAR.out.fr q
                  go_wp2
                  go_roundw
                  case rel =>
                    refine ⟨p + 1, fun j => if j = q then f q + 1 else f j, Rs.set q xs, win', by omega, by go_num, HKR.out.setCell _ _ (.inl (.inr (.inr (.inr rfl)))), ?_, HLF2.out, HAR.out.set q (f q + 1) hwin _ (by push_cast; rfl), HWD2.out.symm, HORD2.out⟩
                    refine (HT7.out.keepS (S := fun _ => False) (Kept.of_below HBR.out) id id id (fun k hk => hk.elim)).keepS (S := fun k => k = gat) ((Kept.refl _ wr).setCell _ _ (.inl rfl)) (fun e => HGN.out.1 e.symm) (fun e => HGN.out.2.1 e.symm) (fun e => HGN.out.2.2 e.symm) (fun k hk => HS4.out k (.inr (.inr (.inr hk))))
                  case measure => simp [intOf]; omega
            · have hpi : ¬ (p : Int) < (k : Int) := by omega
              have hr : rsF Rs win = [] := by
                rcases hnx with ⟨h, -⟩ | ⟨x, xs, h1, h2, h3, h4, -⟩
                · exact h
                · exfalso
                  rw [h3, List.drop_eq_nil_of_le (by rw [← HKI.out]; omega)] at hwd
                  cases hwd
              have HN1 := Lib.hid (next_no wa.heap.size t rb lb i cr cl Rs win hr wb HTT)
              have HN2 : Hid (∀ w, Below wb.heap.size wb w → Calls Try.prog 13 #[.pointer (some ⟨t, 0, none⟩)] w fun e w' => e = .returned (.tuple #[zEv, .int .i64 0, .bool false]) ∧ Below w.heap.size w w') := Lib.hid fun w hb => next_no wa.heap.size t rb lb i cr cl Rs win hr w (Lib.hid (HTT.out.keepS (S := fun _ => False) (Kept.of_below hb) id id id (fun k hk => hk.elim)))
              have HBW : Hid (Below W.heap.size W wb) := Lib.hid (bto HB.out (HBAQ.out.trans (HKQ.out.below HBAQ.out.size HS4.out)))
              clear hnx hwd hr
              go_wp2_with (first
                | (go_at_call 13; (with_reducible refine (HN1.out).mono ?_); rintro e w6 ⟨rfl, hb6⟩; unfold zEv; have HBA6 : Hid (Below wb.heap.size wb (w6.alloc (.cells #[.int .u64 0, .int .i64 0, .int .i64 0, .string { data := #[] }, .float .f64 0] 38))) := Lib.hid (hb6.alloc hb6.size _); clear hb6)
                | (refine wpList_store_row rfl 38 (.tmp 18) (.tmp 194) rfl w6.heap.size #[.int .u64 0, .int .i64 0, .int .i64 0, .string { data := #[] }, .float .f64 0] rfl rfl _ _ (heap_alloc_newM _ _) iZero rfl oneZ ?_; rw [World.setRow_alloc_new])
                | (go_at_call 13; refine (HN2.out _ HBA6.out).mono ?_; rintro e w7 ⟨rfl, hb7⟩; unfold zEv; have HB7 := Lib.hid (bto HBA6.out hb7); clear hb7)
                | (refine wpList_store_row rfl 38 (.tmp 21) (.tmp 200) rfl w7.heap.size #[.int .u64 0, .int .i64 0, .int .i64 0, .string { data := #[] }, .float .f64 0] rfl rfl _ _ (heap_alloc_newM _ _) iZero rfl oneZ ?_; rw [World.setRow_alloc_new]))
              go_ret
              exact ⟨rfl, (bto HBW.out HB7.out).alloc (bto HBW.out HB7.out).size _⟩
        · have hrg : i < 1 ∨ 16 < i := by omega
          clear hrange
          have HNA := Lib.hid hrg
          rcases hrg with h | h
          all_goals
            first
            | have h1i : (i : Int) < 1 := by omega
            | (have h1i : ¬ (i : Int) < 1 := by omega
               have h16i : (16 : Int) < (i : Int) := by omega)
            go_wp2_with (first
              | (go_at_call 10; refine (new_arg As i cs HNA.out _).mono ?_; rintro e w3 ⟨rfl, hb⟩; have HB3 := Lib.hid (bto HB.out hb); clear hb)
              | (go_at_call 11; refine (all_arg As i cs HNA.out _).mono ?_; rintro e w4 ⟨rfl, hb⟩; have HB4 := Lib.hid (bto HB3.out hb); clear hb))
            go_ret
            exact ⟨rfl, HB4.out⟩
end Go.Proofs.Ytoeknpaogeelmaa
