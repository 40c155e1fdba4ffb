/-
  The law ColumnReads: from what both sides give of any bytes.
-/
import Derived.Test.YtlhaedcoompjpaaQPread16
import Derived.ProofKit
import Derived.Laws.Cover2
import Derived.WideKeyArgs
import Derived.Carry
import Derived.Deep.Slices
import Derived.Test.YtlhaedcoompjpaaQPread1
set_option linter.unusedSimpArgs false
set_option linter.unusedVariables false
set_option maxRecDepth 8000
namespace Go.Proofs.Ytlhaedcoompjpaa
open Go.RowKit Go.WideShapes Col
theorem runT_wf : ∀ (k : Nat) (q r : List Nat) (l : List (List Nat)), runS (tP 32) k q = some (l, r) → (∀ x ∈ q, x < 256) → (∀ t ∈ l, WfT t) ∧ ∀ x ∈ r, x < 256
  | 0, q, r, l, h, hq => by
    rw [runS] at h; injection h with h; injection h with h1 h2
    subst h1; subst h2
    exact ⟨fun t ht => (by cases ht), hq⟩
  | k + 1, q, r, l, h, hq => by
    rw [runS] at h
    rcases hr : runS (tP 32) k q with _ | ⟨ys, s1⟩
    · rw [hr] at h; cases h
    · rw [hr] at h
      simp only [Option.bind_some] at h
      rcases hs : tP 32 s1 with _ | ⟨x, s2⟩
      · rw [hs] at h; cases h
      · rw [hs] at h; injection h with h; injection h with h1 h2
        obtain ⟨i1, i2⟩ := runT_wf k q s1 ys hr hq
        obtain ⟨n, q', h3, h4, h5, h6⟩ := tP_some hs
        obtain ⟨-, -, m, -, hm, -⟩ := grp_lt _ _ _ _ (uP_some h3).1
        refine ⟨fun t ht => ?_, fun y hy => ?_⟩
        · rw [← h1] at ht
          rcases List.mem_append.1 ht with h | h
          · exact i1 t h
          · rw [List.mem_singleton.1 h]; exact fun c hc => i2 c ((tP_left hs).2.1 c hc)
        · rw [← h2, h6, hm] at hy
          exact i2 y (List.mem_of_mem_drop (List.mem_of_mem_drop hy))
theorem rU_wf {q r : List Nat} {ts : List (List Nat)} (h : rU q = some (ts, r)) (hq : ∀ x ∈ q, x < 256) : ∀ t ∈ ts, WfT t := by
  unfold rU at h
  rcases hu : uP 4096 q with _ | ⟨n, r1⟩
  · rw [hu] at h; cases h
  · rw [hu] at h
    simp only [Option.bind_some] at h
    obtain ⟨-, -, m, -, hm, -⟩ := grp_lt _ _ _ _ (uP_some hu).1
    rcases hr : runS (tP 32) n r1 with _ | ⟨l, r2⟩
    · rw [hr] at h; cases h
    · rw [hr] at h
      simp only [Option.bind_some] at h
      split at h
      · injection h with h; injection h with h1 h2
        rw [← h1]
        exact (runT_wf n r1 r2 l hr fun x hx => hq x (List.mem_of_mem_drop (hm ▸ hx))).1
      · cases h
theorem rTL_few {q : List Nat} {l : List (List Nat)} (h : rTL q = some l) : l.length ≤ 4096 := by
  unfold rTL at h
  rcases hT : rT q with _ | ⟨us, _ | ⟨x, r⟩⟩
  · rw [hT] at h; cases h
  · rw [hT] at h; injection h with h; subst h
    unfold rT at hT
    rcases hu : rU q with _ | ⟨ts, r⟩
    · rw [hu] at hT; cases hT
    · rw [hu] at hT
      simp only [Option.bind_some] at hT
      rcases hi : rI r with _ | ⟨xs, r2⟩
      · rw [hi] at hT; cases hT
      · rw [hi] at hT
        simp only [Option.bind_some] at hT
        split at hT
        · injection hT with hT; injection hT with h1 h2
          rw [← h1, List.length_map]; exact rI_len hi
        · cases hT
  · rw [hT] at h; cases h
theorem rTL_wf {q : List Nat} {l : List (List Nat)} (h : rTL q = some l) (hq : ∀ x ∈ q, x < 256) : ∀ t ∈ l, WfT t := by
  unfold rTL at h
  rcases hT : rT q with _ | ⟨us, _ | ⟨x, r⟩⟩
  · rw [hT] at h; cases h
  · rw [hT] at h; injection h with h; subst h
    unfold rT at hT
    rcases hu : rU q with _ | ⟨ts, r⟩
    · rw [hu] at hT; cases hT
    · have hts := rU_wf hu hq
      rw [hu] at hT
      simp only [Option.bind_some] at hT
      rcases hi : rI r with _ | ⟨xs, r2⟩
      · rw [hi] at hT; cases hT
      · rw [hi] at hT
        simp only [Option.bind_some] at hT
        split at hT
        · injection hT with hT; injection hT with h1 h2
          rw [← h1]
          intro t ht
          obtain ⟨x, -, rfl⟩ := List.mem_map.1 ht
          unfold pickT
          rw [List.getD_eq_getElem?_getD]
          rcases hg : ts[x.toNat]? with _ | y
          · intro c hc; simp at hc
          · exact hts y (List.mem_of_getElem? hg)
        · cases hT
  · rw [hT] at h; cases h
theorem rFL_few {q us : List Nat} (h : rFL q = some us) : us.length ≤ 4096 := by
  rcases hi : riL q with _ | xs
  · rw [rFL_no hi] at h; cases h
  · rcases hb : okF xs with _ | _
    · rw [rFL_bad hi hb] at h; cases h
    · rw [rFL_ok hi hb] at h; injection h with h; rw [← h, List.length_map]; exact rI_len (riL_inv hi)
theorem rFL_wf {q us : List Nat} (h : rFL q = some us) : ∀ x ∈ us, x < 18446744073709551616 := by
  rcases hi : riL q with _ | xs
  · rw [rFL_no hi] at h; cases h
  · rcases hb : okF xs with _ | _
    · rw [rFL_bad hi hb] at h; cases h
    · rw [rFL_ok hi hb] at h; injection h with h
      intro x hx
      rw [← h] at hx
      obtain ⟨y, -, rfl⟩ := List.mem_map.1 hx
      exact (u64N_eq y).2
theorem columnReads_any (A : Option Addr) (l : List Nat) (n c : Nat) (hn : Hid (n = l.length)) (hnc : n ≤ c) (hc : c ≤ maxLen) (W : World) (HA : Hid (ByAt W A l)) :
    Calls Try.prog 4 #[.slice A n c] W fun e w' => e = .returned (.bool true) ∧ Below W.heap.size W w' := by
  by_cases hbig : 2000 < n
  · have hg : (2000 : Int) < (n : Int) := by omega
    go_enter Try.func4, Try.ntmps4
    go_wp2_with (go_at_call 10; refine (awakeC_any _).mono ?_; rintro e w1 ⟨rfl, hb⟩; first | (have HB2 := Lib.hid (below_to HB1.out hb); clear hb) | (have HB1 := Lib.hid hb; clear hb))
    go_ret
    exact ⟨rfl, HB2.out⟩
  · have hb1 : ∃ (b1 : Bool) (E1 : Int) (l1 : List Int), OkErr b1 E1 ∧ l1.length ≤ 1000000 ∧
        (∀ w : World, Below W.heap.size W w → Calls Try.prog 14 #[.slice A n c] w fun e w' => ∃ (A' : Option Addr) (n' c' : Nat), e = .returned (.tuple #[.slice A' n' c', .int .i64 E1]) ∧ n' = l1.length ∧ IsAt w' A' l1 ∧ Below w.heap.size w w') ∧
        (∀ w : World, Below W.heap.size W w → Calls Try.prog 17 #[.slice A n c] w fun e w' => ∃ (A' : Option Addr) (n' c' : Nat), e = .returned (.tuple #[.slice A' n' c', .bool b1]) ∧ n' = l1.length ∧ IsAt w' A' l1 ∧ Below w.heap.size w w') := by
      have h1 := fun (w : World) (hb : Below W.heap.size W w) => readIntsC_any A c l n hn (by omega) hnc hc w (Lib.hid (HA.out.keep hb))
      have h2 := fun (w : World) (hb : Below W.heap.size W w) => refReadInts A c l n hn (by omega) hnc hc w (Lib.hid (HA.out.keep hb))
      rcases ho : riL l with _ | xs
      · rw [ho] at h1 h2
        refine ⟨false, 3, [], .inr ⟨rfl, rfl⟩, by simp, fun w hb => (h1 w hb).mono fun e w' h => ?_, fun w hb => (h2 w hb).mono fun e w' h => ?_⟩
        · obtain ⟨rfl, h4⟩ := h; exact ⟨none, 0, 0, rfl, rfl, IsAt.nil _ _, h4⟩
        · obtain ⟨rfl, h4⟩ := h; exact ⟨none, 0, 0, rfl, rfl, IsAt.nil _ _, h4⟩
      · rw [ho] at h1 h2
        refine ⟨true, 0, xs, .inl ⟨rfl, rfl⟩, by have := rI_len (riL_inv ho); omega, fun w hb => (h1 w hb).mono fun e w' h => ?_, fun w hb => (h2 w hb).mono fun e w' h => ?_⟩
        · obtain ⟨⟨A', n', c', rfl, h3⟩, h4⟩ := h; exact ⟨A', n', c', rfl, h3.len, h3.isAt, h4⟩
        · obtain ⟨⟨A', n', c', rfl, h3⟩, h4⟩ := h; exact ⟨A', n', c', rfl, h3.len, h3.isAt, h4⟩
    have hb2 : ∃ (b1 : Bool) (E1 : Int) (l1 : List (List Nat)), OkErr b1 E1 ∧ l1.length ≤ 1000000 ∧
        (∀ w : World, Below W.heap.size W w → Calls Try.prog 18 #[.slice A n c] w fun e w' => ∃ (A' : Option Addr) (n' c' : Nat), e = .returned (.tuple #[.slice A' n' c', .int .i64 E1]) ∧ n' = l1.length ∧ TxAt w' A' l1 ∧ Below w.heap.size w w') ∧
        (∀ w : World, Below W.heap.size W w → Calls Try.prog 19 #[.slice A n c] w fun e w' => ∃ (A' : Option Addr) (n' c' : Nat), e = .returned (.tuple #[.slice A' n' c', .bool b1]) ∧ n' = l1.length ∧ TxAt w' A' l1 ∧ Below w.heap.size w w') := by
      have h1 := fun (w : World) (hb : Below W.heap.size W w) => readTextsC_any A c l n hn (by omega) hnc hc w (Lib.hid (HA.out.keep hb))
      have h2 := fun (w : World) (hb : Below W.heap.size W w) => refReadTexts A c l n hn (by omega) hnc hc w (Lib.hid (HA.out.keep hb))
      rcases ho : rTL l with _ | xs
      · rw [ho] at h1 h2
        refine ⟨false, 3, [], .inr ⟨rfl, rfl⟩, by simp, fun w hb => (h1 w hb).mono fun e w' h => ?_, fun w hb => (h2 w hb).mono fun e w' h => ?_⟩
        · obtain ⟨rfl, h4⟩ := h; exact ⟨none, 0, 0, rfl, rfl, TxAt.nil _ _, h4⟩
        · obtain ⟨rfl, h4⟩ := h; exact ⟨none, 0, 0, rfl, rfl, TxAt.nil _ _, h4⟩
      · rw [ho] at h1 h2
        refine ⟨true, 0, xs, .inl ⟨rfl, rfl⟩, by have := rTL_few ho; omega, fun w hb => (h1 w hb).mono fun e w' h => ?_, fun w hb => (h2 w hb).mono fun e w' h => ?_⟩
        · obtain ⟨⟨L, n', rfl, h5, h3⟩, h4⟩ := h
          exact ⟨some ⟨L, 0, none⟩, n', n', rfl, h5, TxAt.of_row xs (rTL_wf ho HA.out.lt) h3 ⟨[], by simp⟩, h4⟩
        · obtain ⟨⟨A', n', c', rfl, h3⟩, h4⟩ := h; exact ⟨A', n', c', rfl, h3.len, h3.isAt, h4⟩
    have hb3 : ∃ (b1 : Bool) (E1 : Int) (l1 : List Nat), OkErr b1 E1 ∧ l1.length ≤ 1000000 ∧
        (∀ w : World, Below W.heap.size W w → Calls Try.prog 20 #[.slice A n c] w fun e w' => ∃ (A' : Option Addr) (n' c' : Nat), e = .returned (.tuple #[.slice A' n' c', .int .i64 E1]) ∧ n' = l1.length ∧ FlAt w' A' l1 ∧ Below w.heap.size w w') ∧
        (∀ w : World, Below W.heap.size W w → Calls Try.prog 21 #[.slice A n c] w fun e w' => ∃ (A' : Option Addr) (n' c' : Nat), e = .returned (.tuple #[.slice A' n' c', .bool b1]) ∧ n' = l1.length ∧ FlAt w' A' l1 ∧ Below w.heap.size w w') := by
      have h1 := fun (w : World) (hb : Below W.heap.size W w) => readRealsC_any A c l n hn (by omega) hnc hc w (Lib.hid (HA.out.keep hb))
      have h2 := fun (w : World) (hb : Below W.heap.size W w) => refReadReals A c l n hn (by omega) hnc hc w (Lib.hid (HA.out.keep hb))
      rcases ho : rFL l with _ | xs
      · rw [ho] at h1 h2
        refine ⟨false, 3, [], .inr ⟨rfl, rfl⟩, by simp, fun w hb => (h1 w hb).mono fun e w' h => ?_, fun w hb => (h2 w hb).mono fun e w' h => ?_⟩
        · obtain ⟨rfl, h4⟩ := h; exact ⟨none, 0, 0, rfl, rfl, FlAt.nil _ _, h4⟩
        · obtain ⟨rfl, h4⟩ := h; exact ⟨none, 0, 0, rfl, rfl, FlAt.nil _ _, h4⟩
      · rw [ho] at h1 h2
        refine ⟨true, 0, xs, .inl ⟨rfl, rfl⟩, by have := rFL_few ho; omega, fun w hb => (h1 w hb).mono fun e w' h => ?_, fun w hb => (h2 w hb).mono fun e w' h => ?_⟩
        · obtain ⟨⟨L, n', rfl, h5, h3⟩, h4⟩ := h
          exact ⟨some ⟨L, 0, none⟩, n', n', rfl, h5, FlAt.of_row xs (rFL_wf ho) h3 ⟨[], by simp⟩, h4⟩
        · obtain ⟨⟨A', n', c', rfl, h3⟩, h4⟩ := h; exact ⟨A', n', c', rfl, h3.len, h3.isAt, h4⟩
    obtain ⟨b1, E1, l1, o1, s1, I1, J1⟩ := hb1
    obtain ⟨b2, E2, l2, o2, s2, I2, J2⟩ := hb2
    obtain ⟨b3, E3, l3, o3, s3, I3, J3⟩ := hb3
    exact columnReads_walk A c n (by omega) E1 E2 E3 b1 b2 b3 o1 o2 o3 l1 l2 l3 s1 s2 s3 W (Lib.hid I1) (Lib.hid J1) (Lib.hid I2) (Lib.hid J2) (Lib.hid I3) (Lib.hid J3)
end Go.Proofs.Ytlhaedcoompjpaa

set_option linter.unusedSimpArgs false
set_option linter.unusedVariables false
namespace Go.Proofs.Ytlhaedcoompjpaa
open Go.ChangeShapes Go.WideShapes Go.ChangeAt Go.RowKit

theorem Try.own : ownKnob Try.prog.godebug = none := by kernel_rfl
theorem Try.laidOut : laidOutB Try.prog = true := by kernel_rfl

section
variable {H : Type} {enc : TypeId × Value → H} {P : Program}

theorem trodAll_keep {W W' : World} {sp : Nat → Bool} (hl : laidOutB P = true) (hs : ∀ x : MemPlace, x.block < W.heap.size → W.sameAt W' x) : ∀ (ts : List TypeId) (vs : List Value) (ds : List (DataW H)) (ps : List MemPlace),
    (∀ t, t ∈ ts → P.readableRec t = true ∧ t < P.types.size) → DataW.TrodAll enc P W 0 (fun _ => true) true ts vs ds ps → (∀ x, x ∈ ps → x.block < W.heap.size) → (∀ x, x ∈ ps → sp x.block = true) →
    DataW.TrodAll enc P W' 0 sp true ts vs ds ps
  | [], [], [], _, _, h, _, _ => h
  | t :: ts, v :: vs, d :: ds, ps, hr, ⟨p, q, hd, hrest, he⟩, hlt, hsp => by
    subst he
    refine ⟨p, q, ?_, trodAll_keep hl hs ts vs ds q (fun t ht => hr t (by simp [ht])) hrest (fun x hx => hlt x (by simp [hx])) (fun x hx => hsp x (by simp [hx])), rfl⟩
    exact WideElems.Trod_stays hl (hr t (by simp)).1 (hr t (by simp)).2 hd (fun x hx => hs x (hlt x (by simp [hx]))) (fun x hx => hsp x (by simp [hx]))
  | [], [], _ :: _, _, _, h, _, _ => h.elim
  | [], _ :: _, _, _, _, h, _, _ => h.elim
  | _ :: _, [], _, _, _, h, _, _ => h.elim
  | _ :: _, _ :: _, [], _, _, h, _, _ => h.elim

theorem post_law {f : Func} {s : ChangeSpec} {W W' : World} {args : Array Value} {ds : List (DataW H)} {before : List MemPlace} {tb : TypeId} (hl : laidOutB P = true)
    (hv : s.vars = []) (hW : DataW.Whole enc P f.params.toList s.vars false W args.toList ds [] before)
    (hrec : ∀ t, t ∈ f.params.toList → P.readableRec t = true ∧ t < P.types.size)
    (hres : (s.fn H ds).results = [.lit (.bool true)]) (hargs : (s.fn H ds).args = ds) (hvs : (s.fn H ds).vars = [])
    (hrt : f.resultTypes = #[tb]) (htb : P.underlying tb = some .bool) (hb : Below W.heap.size W W') : s.post enc P f false true false false W args (.bool true) W' := by
  have hlt : ∀ x, x ∈ before → x.block < W.heap.size := fun x hx => hW.lt x hx
  have hW2 := hW
  obtain ⟨p, q, hA, hV, rfl, -, -⟩ := hW2
  have hq : q = [] := by rw [hv] at hV; exact hV
  subst hq
  refine ⟨ds, [], p ++ [], [], p, [], hW, ?_, ?_, ?_, hb.frame _, fun h => by cases h⟩
  · rw [List.append_nil, hres, hrt]
    exact trodAll_mk1 (shut_bool htb true)
  · rw [List.append_nil, hargs]
    exact trodAll_keep hl (fun x hx => hb.same hx) _ _ _ _ hrec hA (fun x hx => hlt x (by simp [hx])) (fun x hx => by simpa using hlt x (by simp [hx]))
  · rw [List.append_nil, hv, hvs]; rfl

/-- A slice of bytes that came in. -/
theorem open_bys {W : World} {t e : TypeId} {v : Value} {d : DataW H} {ps : List MemPlace} (ht : P.underlying t = some (.slice e)) (he : P.underlying e = some (.int .u8)) (hc : P.cellsOf e = 1)
    {b0 : Nat} {r : Reach} (hok : Value.okWide P W r b0 t v) (hd : DataW.Trod enc P W 0 (fun _ => true) true t v d ps) (hlt : ∀ x, x ∈ ps → x.block < W.heap.size) :
    ∃ (a : Option Addr) (l : List Nat) (cap : Nat), v = .slice a l.length cap ∧ l.length ≤ cap ∧ cap ≤ maxLen ∧ ByAt W a l := by
  obtain ⟨fuel, hf⟩ := hd
  obtain ⟨a, len, cap, rfl⟩ : ∃ a len cap, v = .slice a len cap := by
    simp only [Value.okWide, ht, Cell.okWide] at hok
    cases v <;> simp_all [Cell.ok]
  rcases Deep.open_slice1 ht hc hf with ⟨hcs, -⟩ | ⟨a', len', cap', m, n, V, D, Pl, hcs, -, hl, hm, hmm, hx, hcell⟩
  · simp [Value.cells] at hcs
    obtain ⟨rfl, rfl, rfl⟩ := hcs
    exact ⟨none, [], 0, rfl, Nat.le_refl _, by unfold maxLen; omega, fun k x hx => by simp at hx⟩
  · simp [Value.cells] at hcs
    obtain ⟨rfl, rfl, rfl⟩ := hcs
    simp only [if_true] at hmm
    subst hmm
    have hV : ∀ i, i < m → ∃ b : Nat, V i = .int .u8 (b : Int) ∧ b < 256 := fun i hi => by
      obtain ⟨b, h1, _, h2⟩ := DataW.trod_int he (hcell i hi).2
      have h3 : 0 ≤ b ∧ b ≤ 255 := by simpa [Lit.wf, IntKind.min, IntKind.max, IntKind.signed, IntKind.bits] using h2
      exact ⟨b.toNat, by rw [show ((b.toNat : Nat) : Int) = b by omega]; simpa using h1, by omega⟩
    let B : Nat → Nat := fun i => match V i with | .int _ b => b.toNat | _ => 0
    have hB : ∀ i, i < m → V i = .int .u8 (B i : Int) ∧ B i < 256 := fun i hi => by
      obtain ⟨b, h1, h2⟩ := hV i hi
      have : B i = b := by show (match V i with | .int _ b => b.toNat | _ => 0) = b; rw [h1]; simp
      rw [this]; exact ⟨h1, h2⟩
    refine ⟨some a', (List.range len).map B, m, by simp, by simpa using hl, hm, fun k x hx2 => ?_⟩
    have hk : k < len := by
      rcases Nat.lt_or_ge k len with h | h
      · exact h
      · rw [List.getElem?_eq_none (by simpa using h)] at hx2; cases hx2
    have hx3 : x = B k := by simp [hk] at hx2; exact hx2.symm
    subst hx3
    obtain ⟨b, off, spot⟩ := a'
    have hspot : spot = none := by simpa [Addr.add] using World.cell?_spot (hcell 0 (by omega)).1
    subst hspot
    refine ⟨(hB k (by omega)).2, b, off, rfl, ?_, ?_⟩
    · have hcl := (hcell 0 (by omega)).1
      have := block_lt_of_cell hcl
      simpa [Addr.add] using this
    · have h := (hcell k (by omega)).1
      rw [(hB k (by omega)).1] at h
      rw [Addr.add_lit] at h
      exact h
/-- A slice of whole numbers that came in. -/
theorem open_is {W : World} {t e : TypeId} {v : Value} {d : DataW H} {ps : List MemPlace} (ht : P.underlying t = some (.slice e)) (he : P.underlying e = some (.int .i64)) (hc : P.cellsOf e = 1)
    {b0 : Nat} {r : Reach} (hok : Value.okWide P W r b0 t v) (hd : DataW.Trod enc P W 0 (fun _ => true) true t v d ps) (hlt : ∀ x, x ∈ ps → x.block < W.heap.size) :
    ∃ (a : Option Addr) (l : List Int) (cap : Nat), v = .slice a l.length cap ∧ l.length ≤ cap ∧ cap ≤ maxLen ∧ IsAt W a l := by
  obtain ⟨fuel, hf⟩ := hd
  obtain ⟨a, len, cap, rfl⟩ : ∃ a len cap, v = .slice a len cap := by
    simp only [Value.okWide, ht, Cell.okWide] at hok
    cases v <;> simp_all [Cell.ok]
  rcases Deep.open_slice1 ht hc hf with ⟨hcs, -⟩ | ⟨a', len', cap', m, n, V, D, Pl, hcs, -, hl, hm, hmm, hx, hcell⟩
  · simp [Value.cells] at hcs
    obtain ⟨rfl, rfl, rfl⟩ := hcs
    exact ⟨none, [], 0, rfl, Nat.le_refl _, by unfold maxLen; omega, fun k x hx => by simp at hx⟩
  · simp [Value.cells] at hcs
    obtain ⟨rfl, rfl, rfl⟩ := hcs
    simp only [if_true] at hmm
    subst hmm
    have hV : ∀ i, i < m → ∃ b : Int, V i = .int .i64 b ∧ Wf64 b := fun i hi => by
      obtain ⟨b, h1, _, h2⟩ := DataW.trod_int he (hcell i hi).2
      have h3 : -9223372036854775808 ≤ b ∧ b ≤ 9223372036854775807 := by simpa [Lit.wf, IntKind.min, IntKind.max, IntKind.signed, IntKind.bits] using h2
      exact ⟨b, by simpa using h1, h3⟩
    let B : Nat → Int := fun i => match V i with | .int _ b => b | _ => 0
    have hB : ∀ i, i < m → V i = .int .i64 (B i) ∧ Wf64 (B i) := fun i hi => by
      obtain ⟨b, h1, h2⟩ := hV i hi
      have : B i = b := by show (match V i with | .int _ b => b | _ => 0) = b; rw [h1]
      rw [this]; exact ⟨h1, h2⟩
    refine ⟨some a', (List.range len).map B, m, by simp, by simpa using hl, hm, fun k x hx2 => ?_⟩
    have hk : k < len := by
      rcases Nat.lt_or_ge k len with h | h
      · exact h
      · rw [List.getElem?_eq_none (by simpa using h)] at hx2; cases hx2
    have hx3 : x = B k := by simp [hk] at hx2; exact hx2.symm
    subst hx3
    obtain ⟨b, off, spot⟩ := a'
    have hspot : spot = none := by simpa [Addr.add] using World.cell?_spot (hcell 0 (by omega)).1
    subst hspot
    refine ⟨(hB k (by omega)).2, b, off, rfl, ?_, ?_⟩
    · have hcl := (hcell 0 (by omega)).1
      have := block_lt_of_cell hcl
      simpa [Addr.add] using this
    · have h := (hcell k (by omega)).1
      rw [(hB k (by omega)).1] at h
      rw [Addr.add_lit] at h
      exact h
/-- A slice value that holds some bools, in a world. -/
def BlAt (w : World) (a : Option Addr) (l : List Bool) : Prop := ∀ (k : Nat) (x : Bool), l[k]? = some x → ∃ g off, a = some ⟨g, off, none⟩ ∧ g < w.heap.size ∧ w.cell? ⟨g, off + k, none⟩ = some (.bool x)
theorem BlAt.keep {w w' : World} {a : Option Addr} {l : List Bool} (h : BlAt w a l) (hb : Below w.heap.size w w') : BlAt w' a l := fun k x hx => by
  obtain ⟨g, off, h2, h3, h4⟩ := h k x hx
  exact ⟨g, off, h2, Nat.lt_of_lt_of_le h3 hb.size, (hb.cell (p := ⟨g, off + k, none⟩) h3).trans h4⟩
/-- A slice of bools that came in. -/
theorem open_bls {W : World} {t e : TypeId} {v : Value} {d : DataW H} {ps : List MemPlace} (ht : P.underlying t = some (.slice e)) (he : P.underlying e = some .bool) (hc : P.cellsOf e = 1)
    {b0 : Nat} {r : Reach} (hok : Value.okWide P W r b0 t v) (hd : DataW.Trod enc P W 0 (fun _ => true) true t v d ps) (hlt : ∀ x, x ∈ ps → x.block < W.heap.size) :
    ∃ (a : Option Addr) (l : List Bool) (cap : Nat), v = .slice a l.length cap ∧ l.length ≤ cap ∧ cap ≤ maxLen ∧ BlAt W a l := by
  obtain ⟨fuel, hf⟩ := hd
  obtain ⟨a, len, cap, rfl⟩ : ∃ a len cap, v = .slice a len cap := by
    simp only [Value.okWide, ht, Cell.okWide] at hok
    cases v <;> simp_all [Cell.ok]
  rcases Deep.open_slice1 ht hc hf with ⟨hcs, -⟩ | ⟨a', len', cap', m, n, V, D, Pl, hcs, -, hl, hm, hmm, hx, hcell⟩
  · simp [Value.cells] at hcs
    obtain ⟨rfl, rfl, rfl⟩ := hcs
    exact ⟨none, [], 0, rfl, Nat.le_refl _, by unfold maxLen; omega, fun k x hx => by simp at hx⟩
  · simp [Value.cells] at hcs
    obtain ⟨rfl, rfl, rfl⟩ := hcs
    simp only [if_true] at hmm
    subst hmm
    have hV : ∀ i, i < m → ∃ b : Bool, V i = .bool b := fun i hi => by
      obtain ⟨b, h1, -⟩ := DataW.trod_bool he (hcell i hi).2
      exact ⟨b, by simpa using h1⟩
    let B : Nat → Bool := fun i => match V i with | .bool b => b | _ => false
    have hB : ∀ i, i < m → V i = .bool (B i) := fun i hi => by
      obtain ⟨b, h1⟩ := hV i hi
      have : B i = b := by show (match V i with | .bool b => b | _ => false) = b; rw [h1]
      rw [this]; exact h1
    refine ⟨some a', (List.range len).map B, m, by simp, by simpa using hl, hm, fun k x hx2 => ?_⟩
    have hk : k < len := by
      rcases Nat.lt_or_ge k len with h | h
      · exact h
      · rw [List.getElem?_eq_none (by simpa using h)] at hx2; cases hx2
    have hx3 : x = B k := by simp [hk] at hx2; exact hx2.symm
    subst hx3
    obtain ⟨b, off, spot⟩ := a'
    have hspot : spot = none := by simpa [Addr.add] using World.cell?_spot (hcell 0 (by omega)).1
    subst hspot
    refine ⟨b, off, rfl, ?_, ?_⟩
    · have hcl := (hcell 0 (by omega)).1
      have := block_lt_of_cell hcl
      simpa [Addr.add] using this
    · have h := (hcell k (by omega)).1
      rw [hB k (by omega)] at h
      rw [Addr.add_lit] at h
      exact h
end
end Go.Proofs.Ytlhaedcoompjpaa
