/-
  The contract of Lay.
-/
import Derived.Test.YtbimfopbilcdgaaDoorByK
import Derived.Test.YtbimfopbilcdgaaDoorGlK
import Derived.Test.YtbimfopbilcdgaaDoorGrK
set_option linter.unusedSimpArgs false
set_option linter.unusedVariables false
set_option maxRecDepth 8000
namespace Go.Proofs.YtbimfopbilcdgaaDoor
open Go.RowKit

namespace Pg
/-- A page, but for its sum; a page. -/
def front (kind : Nat) (body : List Nat) : List Nat := four body.length ++ kind :: body
def lay (kind : Nat) (body : List Nat) : List Nat := front kind body ++ four (sum (front kind body))
theorem front_len (kind : Nat) (body : List Nat) : (front kind body).length = 5 + body.length := by unfold front four; simp; omega
theorem front_lt (kind : Nat) (body : List Nat) (hk : kind < 256) (hb : ∀ x ∈ body, x < 256) : ∀ x ∈ front kind body, x < 256 := by
  intro x hx
  unfold front at hx
  rcases List.mem_append.1 hx with h | h
  · exact four_lt _ x h
  · rcases List.mem_cons.1 h with h | h
    · omega
    · exact hb x h
end Pg

theorem sp1 {α : Type} (L Y body : List α) (x0 x1 x2 x3 x4 : α) : splice (L ++ x0 :: x1 :: x2 :: x3 :: x4 :: Y) (L.length + 5) body = L ++ (x0 :: x1 :: x2 :: x3 :: x4 :: (body ++ Y.drop body.length)) := by
  unfold splice
  rw [List.take_length_add_append, Nat.add_assoc, List.drop_length_add_append, Nat.add_comm 5]
  simp
theorem sp2 {α : Type} (L Y : List α) (x0 x1 x2 x3 : α) (f0 f1 f2 f3 : α) : splice (L ++ x0 :: x1 :: x2 :: x3 :: Y) L.length [f0, f1, f2, f3] = L ++ (f0 :: f1 :: f2 :: f3 :: Y) := by
  unfold splice
  rw [List.take_append_of_le_length (Nat.le_refl _), List.take_length, List.drop_length_add_append]
  simp
theorem sp3 {α : Type} (L Y : List α) (f0 f1 f2 f3 x v : α) : (L ++ f0 :: f1 :: f2 :: f3 :: x :: Y).set (L.length + 4) v = L ++ (f0 :: f1 :: f2 :: f3 :: v :: Y) := by
  rw [List.set_append_right _ _ (by omega), Nat.add_sub_cancel_left]; rfl
theorem sp4 {α : Type} (L Y body : List α) (f0 f1 f2 f3 v : α) : (L ++ (f0 :: f1 :: f2 :: f3 :: v :: (body ++ Y))).take (L.length + (5 + body.length)) = L ++ (f0 :: f1 :: f2 :: f3 :: v :: body) := by
  rw [List.take_length_add_append, Nat.add_comm 5]
  simp
/-- The row behind the two copies and the store. -/
theorem lay_row (cs : List Value) (l : List Nat) (n m kind : Nat) (body : List Nat) (hcs : cs.take n = bys l) (hn : n = l.length) (hm : m = body.length) (hc : n + 9 + m ≤ cs.length) :
    ((splice (splice cs (n + 5) (bys body)) n (bys (Pg.four m))).set (n + 4) (bv kind)).take (n + 5 + m) = bys (l ++ Pg.front kind body) := by
  obtain ⟨x, rfl⟩ : ∃ x, cs = bys l ++ x := ⟨cs.drop n, by rw [← hcs, List.take_append_drop]⟩
  have hll : (bys l).length = n := by rw [bys_length, hn]
  rw [List.length_append, hll] at hc
  obtain ⟨x0, x1, x2, x3, x4, y, rfl⟩ : ∃ x0 x1 x2 x3 x4 y, x = x0 :: x1 :: x2 :: x3 :: x4 :: y := by
    match x, hc with
    | x0 :: x1 :: x2 :: x3 :: x4 :: y, _ => exact ⟨x0, x1, x2, x3, x4, y, rfl⟩
    | [_, _, _, _], h => simp at h; omega
    | [_, _, _], h => simp at h; omega
    | [_, _], h => simp at h; omega
    | [_], h => simp at h; omega
    | [], h => simp at h; omega
  have hbl : (bys body).length = m := by rw [bys_length, hm]
  have e4 := sp4 (bys l) (y.drop (bys body).length) (bys body) (bv (m % 256)) (bv (m / 256 % 256)) (bv (m / 65536 % 256)) (bv (m / 16777216 % 256)) (bv kind)
  rw [hll, hbl, ← Nat.add_assoc] at e4
  have e1 := sp1 (bys l) y (bys body) x0 x1 x2 x3 x4
  rw [hll] at e1
  rw [e1]
  have e2 := sp2 (bys l) (x4 :: (bys body ++ y.drop (bys body).length)) x0 x1 x2 x3 (bv (m % 256)) (bv (m / 256 % 256)) (bv (m / 65536 % 256)) (bv (m / 16777216 % 256))
  rw [hll] at e2
  rw [show bys (Pg.four m) = [bv (m % 256), bv (m / 256 % 256), bv (m / 65536 % 256), bv (m / 16777216 % 256)] from rfl, e2]
  have e3 := sp3 (bys l) (bys body ++ y.drop (bys body).length) (bv (m % 256)) (bv (m / 256 % 256)) (bv (m / 65536 % 256)) (bv (m / 16777216 % 256)) x4 (bv kind)
  rw [hll] at e3
  rw [e3, hbl, e4]
  unfold Pg.front
  rw [← hm, bys_append, bys_append]
  rfl

/-- Behind the first copy: what is known of the row. -/
theorem Roomy.splice1 {w : World} {B g n m cap : Nat} {cs : List Value} {l body : List Nat} (h : Roomy w B g n cap cs l) (hm : m = body.length) (hc : n + (5 + m + 4) ≤ cap) : n + 5 + (bys body).length ≤ cs.length := by
  have := h.size
  rw [bys_length]; omega
theorem by_word {w w1 : World} (n : Nat) (h : w1 = w.alloc (.cells (fourC n) 5)) : ∀ (j : Nat) (v : Value), (bys (Pg.four n))[j]? = some v → w1.cell? ((⟨w.heap.size, 0, none⟩ : Addr).add j) = some v := fun j v hj => by
  subst h
  exact World.news_of_block (heap_alloc_new' w _) j v (by rw [fourC_list]; exact hj)

theorem by_word' {w : World} (n : Nat) : ∀ (j : Nat) (v : Value), (bys (Pg.four n))[j]? = some v → (w.alloc (.cells (fourC n) 5)).drew.cell? ((⟨w.heap.size, 0, none⟩ : Addr).add j) = some v := fun j v hj =>
  World.news_of_block (w := (w.alloc (.cells (fourC n) 5)).drew) (heap_alloc_new' w _) j v (by rw [fourC_list]; exact hj)
theorem four_min (m : Nat) : (bys (Pg.four m)).length = Nat.min 4 (5 + m) := by
  rw [show (bys (Pg.four m)).length = 4 from rfl]; exact (Nat.min_eq_left (by omega)).symm
theorem HalvesAt.keepB {w w' : World} {B : Nat} (h : HalvesAt w) (hb : Below B w w') (hB : 0 < B) : HalvesAt w' := fun i hi =>
  (hb.cell (p := ⟨0, i, none⟩) hB).trans (h i hi)
theorem by_four (w : World) (n : Nat) : ByAt (w.alloc (.cells (fourC n) 5)) (some ⟨w.heap.size, 0, none⟩) (Pg.four n) := ByAt.of_row _ (Pg.four_lt n) (heap_alloc_new' w _) (by rw [fourC_list]; exact ⟨[], by simp⟩)
theorem by_four_set (w : World) (a : Addr) (u : Value) (n : Nat) : ByAt ((w.setCell a u).alloc (.cells (fourC n) 5)) (some ⟨w.heap.size, 0, none⟩) (Pg.four n) := by rw [← setCell_size w a u]; exact by_four _ _
/-- What Lay returns: a slice of the call's own. -/
def RetL (w : World) (B n : Nat) (l : List Nat) (e : Ending) (w' : World) : Prop := ∃ A cap, e = .returned (.slice A n cap) ∧ OwnS w' B A n cap l ∧ Below B w w'

set_option maxHeartbeats 4000000 in
theorem lay_core (n m c cap0 : Nat) (A : Option Addr) (l : List Nat) (kind : Nat) (b : Option Addr) (body : List Nat) (B : Nat) (w : World) (HGr : Hid (Calls Tryd.prog 31 #[.slice A n cap0, .int .i64 ((5 + m + 4 : Nat) : Int)] w (RetG w B n (5 + m + 4) l)))
    (hn : Hid (n = l.length)) (hm : Hid (m = body.length)) (hsmall : n + m ≤ 1000000) (hk : kind < 256) (HB : Hid (ByAt w b body)) (HG : Hid (HalvesAt w)) (hBw : B ≤ w.heap.size) (hGB : 0 < B) :
    Calls Tryd.prog 16 #[.slice A n cap0, .int .u8 (kind : Int), .slice b m c] w (RetL w B (n + 5 + m + 4) (l ++ Pg.lay kind body)) := by
  have HN5 : Hid ((5 : Int) + (m : Int) + 4 = ((5 + m + 4 : Nat) : Int)) := Lib.hid (by omega)
  go_enter Tryd.func16, Tryd.ntmps16
  go_wp2_with (first | (go_at_call 31; rw [HN5.out]; refine HGr.out.mono ?_; rintro e w1 ⟨g, cap, cs, rfl, hR, hcap, hb⟩; have HR := Lib.hid hR; have HB1 := Lib.hid hb; clear hR hb; have r1 : ∀ w, (Instr.slice 22 (.slice (some ⟨g, 0, none⟩) n cap) none (some (.int .i64 ((n : Int) + 5 + (m : Int)))) none).run Tryd.prog w = .ok (.slice (some ⟨g, 0, none⟩) (n + 5 + m) cap) w := row_to g n cap (n + 5 + m) (by omega); have r2 : ∀ w, (Instr.slice 22 (.slice (some ⟨g, 0, none⟩) (n + 5 + m) cap) (some (.int .i64 ((n : Int) + 5))) none none).run Tryd.prog w = .ok (.slice (some ⟨g, n + 5, none⟩) m (cap - (n + 5))) w := row_from' g (n + 5 + m) cap (n + 5) m (by omega) (by omega); have r3 : ∀ w, (Instr.slice 22 (.slice (some ⟨g, 0, none⟩) (n + 5 + m) cap) (some (.int .i64 (n : Int))) none none).run Tryd.prog w = .ok (.slice (some ⟨g, n, none⟩) (5 + m) (cap - n)) w := row_from' g (n + 5 + m) cap n (5 + m) (by omega) (by omega)) | (refine wpList_copy_splice rfl (.tmp 25) (.tmp 26) 22 22 rfl 5 Tryd.underlying22 sizeU8 (some ⟨g, n + 5, none⟩) b m (cap - (n + 5)) m c rfl rfl g (n + 5) cs 5 HR.out.row (bys body) ?q1 ?q2 ?q3 (bys_one body) B w ?q4 HR.out.base ?_; (case q1 => exact (by rw [bys_length, ← hm.out]; exact (Nat.min_self m).symm)); (case q2 => exact fun _ => copy_src rfl HB HB1.out ‹_›); (case q3 => exact HR.out.splice1 hm.out hcap); (case q4 => exact HB1.out.mono hBw); intro w2 HR2 hb2; have HB2 := Lib.hid hb2; clear hb2))
  have hm32 : m < 4294967296 := by omega
  have hl2 : (splice cs (n + 5) (bys body)).length = cap := by rw [splice_len _ _ _ (HR.out.splice1 hm.out hcap), HR.out.size]
  have hfit : n + (bys (Pg.four m)).length ≤ (splice cs (n + 5) (bys body)).length := by rw [hl2, show (bys (Pg.four m)).length = 4 from rfl]; omega
  have HL2 := Lib.hid hl2
  have HF := Lib.hid hfit
  clear hl2 hfit
  refine wp_region_any (by kernel_rfl) ?_
  try (change wpAny _ _ _ _ _ _ _ (World.drew _))
  refine wpAny_take (i := 0) (v := .slice (some ⟨g, 0, none⟩) (n + 5 + m) cap) rfl (by kernel_rfl) (by kernel_rfl) (by kernel_rfl) (fun _ _ _ h => h) (Or.inl ⟨by rfl, fun _ => rfl⟩) ?_
  try dsimp only
  try simp only [Act.put, List.setIfInBounds_toArray, List.set_cons_zero, List.set_cons_succ]
  refine wpAny_take (i := 1) (v := .int .i64 (n : Int)) rfl (by kernel_rfl) (by kernel_rfl) (by kernel_rfl) (fun _ _ _ h => h) (Or.inl ⟨by rfl, fun _ => rfl⟩) ?_
  try dsimp only
  try simp only [Act.put, List.setIfInBounds_toArray, List.set_cons_zero, List.set_cons_succ]
  refine wpAny_take (i := 2) (v := .slice (some ⟨g, n, none⟩) (5 + m) (cap - n)) rfl (by kernel_rfl) (by kernel_rfl) (by kernel_rfl) (fun _ _ _ h => h) (Or.inl ⟨by rfl, fun w => ?_⟩) ?_
  · go_simp
  try dsimp only
  try simp only [Act.put, List.setIfInBounds_toArray, List.set_cons_zero, List.set_cons_succ]
  refine wpAny_take (i := 3) (v := .slice b m c) rfl (by kernel_rfl) (by kernel_rfl) (by kernel_rfl) (fun _ _ _ h => h) (Or.inl ⟨by rfl, fun _ => rfl⟩) ?_
  try dsimp only
  try simp only [Act.put, List.setIfInBounds_toArray, List.set_cons_zero, List.set_cons_succ]
  refine wpAny_take (i := 4) (v := .int .i64 (m : Int)) rfl (by kernel_rfl) (by kernel_rfl) (by kernel_rfl) (fun _ _ _ h => h) (Or.inl ⟨by rfl, fun w => ?_⟩) ?_
  · go_simp
  try dsimp only
  try simp only [Act.put, List.setIfInBounds_toArray, List.set_cons_zero, List.set_cons_succ]
  refine wpAny_take (i := 5) (v := .int .u32 (m : Int)) rfl (by kernel_rfl) (by kernel_rfl) (by kernel_rfl) (fun _ _ _ h => h) (Or.inl ⟨by rfl, fun w => ?_⟩) ?_
  · go_simp
    rw [IntKind.wrap_u32']; omega
  try dsimp only
  try simp only [Act.put, List.setIfInBounds_toArray, List.set_cons_zero, List.set_cons_succ]
  refine wpAny_ready (rs := [6]) (by kernel_rfl) (by simp) (AllReady.cons rfl (fun K hK => ?_) AllReady.nil)
  go_simp
  refine (word_any m hm32 _).mono ?_
  rintro e w3 ⟨rfl, rfl⟩
  refine hK _ _ ?_
  clear hK K
  try dsimp only
  try simp only [Act.put, List.setIfInBounds_toArray, List.set_cons_zero, List.set_cons_succ]
  refine wpAny_ready (rs := [7]) (by kernel_rfl) (by simp) (AllReady.cons rfl (fun K hK => ?_) AllReady.nil)
  refine step_copy_splice ?g0 (.tmp 30) (.tmp 34) 22 22 ?g1 5 Tryd.underlying22 sizeU8 (some ⟨g, n, none⟩) (some ⟨w2.heap.size, 0, none⟩) (5 + m) (cap - n) 4 4 ?g2 ?g3 g n (splice cs (n + 5) (bys body)) 5 ?g4 (bys (Pg.four m)) ?g5 ?g6 HF.out (bys_one _) B w ?g7 HR.out.base ?g8
  case g0 => rfl
  case g1 => rfl
  case g2 => rfl
  case g3 => rfl
  case g4 => exact row_new HR2
  case g5 => exact four_min m
  case g6 => exact fun _ => ⟨rfl, _, rfl, by_word' m⟩
  case g7 => exact (HB2.out.alloc (Nat.le_trans hBw HB2.out.size) _).drew
  case g8 =>
    intro w4 HR4 hb4
    refine hK _ _ ?_
    clear hK K
    refine wpAny_done (by kernel_rfl) ?_ _
    have HB4 := Lib.hid hb4
    clear hb4
    have hl4 : (splice (splice cs (n + 5) (bys body)) n (bys (Pg.four m))).length = cap := by rw [splice_len _ _ _ HF.out, HL2.out]
    have hi4 : n + 4 < (splice (splice cs (n + 5) (bys body)) n (bys (Pg.four m))).length := by rw [hl4]; omega
    have hc4 := row_cell HR4.out (n + 4) hi4
    have hf4 := row_frozen HR4.out (n + 4)
    have HR5 := Lib.hid (row_set HR4.out (n + 4) (bv kind))
    have hfl := Pg.front_lt kind body hk HB.out.lt
    have HO5 : Hid (OwnS (w4.setCell ⟨g, n + 4, none⟩ (.int .u8 (kind : Int))) B (some ⟨g, 0, none⟩) (n + 5 + m) cap (l ++ Pg.front kind body)) := Lib.hid
      (OwnS.of_row (cs := (splice (splice cs (n + 5) (bys body)) n (bys (Pg.four m))).set (n + 4) (bv kind)) HR5.out (by rw [List.length_set, hl4]) HR.out.cap (by rw [List.length_append, Pg.front_len, ← hn.out, ← hm.out]; omega)
        (lay_row cs l n m kind body HR.out.first hn.out hm.out (by rw [HR.out.size]; omega)) HR.out.base (fun x hx => (List.mem_append.1 hx).elim (HR.out.lt x) (hfl x)))
    have HA5 := Lib.hid (HO5.out.byAt.shift hn.out)
    have HB5 : Hid (Below B w (w4.setCell ⟨g, n + 4, none⟩ (.int .u8 (kind : Int)))) := Lib.hid (HB4.out.setCell HR.out.base _)
    have HG5 : Hid (HalvesAt (w4.setCell ⟨g, n + 4, none⟩ (.int .u8 (kind : Int)))) := Lib.hid (HG.out.keepB HB5.out hGB)
    have hs32 : Pg.sum (Pg.front kind body) < 4294967296 := Pg.sum_lt hfl
    have hlf : Hid (5 + m = (Pg.front kind body).length) := Lib.hid (by rw [Pg.front_len, hm.out])
    generalize (splice (splice cs (n + 5) (bys body)) n (bys (Pg.four m))) = cs4 at *
    clear hl4 hfl
    generalize cs4[n + 4] = x4 at *
    have HS5 : Hid (B ≤ (w4.setCell ⟨g, n + 4, none⟩ (.int .u8 (kind : Int))).heap.size) := Lib.hid (Nat.le_trans hBw HB5.out.size)
    go_wp2_with (first | (go_at_call 33; refine (sum_any _ _ _ _ hlf (by unfold maxLen; omega) _ HA5 HG5).mono ?_; rintro e w6 ⟨rfl, rfl⟩) | (go_at_call 32; refine (word_any _ hs32 _).mono ?_; rintro e w6 ⟨rfl, rfl⟩) | (at_builtin; refine wpList_append_by rfl (.tmp 41) (.tmp 46) rfl B (some ⟨g, 0, none⟩) (n + 5 + m) cap (l ++ Pg.front kind body) rfl (HO5.out.keep ((Below.refl _ _).alloc (Nat.le_refl _) _)) (some ⟨w4.heap.size, 0, none⟩) 4 4 (Pg.four (Pg.sum (Pg.front kind body))) rfl rfl (by_four_set _ _ _ _) (by omega) (by_size HS5) ?_; intro A' cap' w7 hO hG hL))
    go_ret
    refine ⟨A', cap', ?_, ?_, ?_⟩
    · exact ret_eqP rfl
    · rw [List.append_assoc] at hO; exact hO
    · exact (HB5.out.alloc HS5.out _).grown hG (by_size HS5) (by intro k hk; simp at hk; have := HR.out.base; omega)

/-- Lay: behind bytes of the call's own. -/
theorem lay_any (A : Option Addr) (n cap0 : Nat) (l : List Nat) (kind : Nat) (b : Option Addr) (m c : Nat) (body : List Nat) (B : Nat) (w : World) (HO : Hid (OwnS w B A n cap0 l)) (hm : Hid (m = body.length)) (hsmall : n + m ≤ 1000000) (hk : kind < 256)
    (HB : Hid (ByAt w b body)) (HG : Hid (HalvesAt w)) (hBw : B ≤ w.heap.size) (hGB : 0 < B) :
    Calls Tryd.prog 16 #[.slice A n cap0, .int .u8 (kind : Int), .slice b m c] w (RetL w B (n + 5 + m + 4) (l ++ Pg.lay kind body)) :=
  lay_core n m c cap0 A l kind b body B w (Lib.hid (grow_any A n cap0 l (5 + m + 4) B w HO (by omega) (by omega) hBw)) (Lib.hid HO.out.len) hm hsmall hk HB HG hBw hGB
end Go.Proofs.YtbimfopbilcdgaaDoor
