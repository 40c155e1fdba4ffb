/-
  The contract of Lay.
-/
import Derived.Test.YtjldamkmdkaiiaaGreatDoorGlK
set_option linter.unusedSimpArgs false
set_option linter.unusedVariables false
set_option maxRecDepth 8000
namespace Go.Proofs.YtjldamkmdkaiiaaGreatDoor
open Go.RowKit
namespace Pg
def sz (q : List Nat) : Nat := val (q.take 4)
def errOf (q : List Nat) : Nat :=
 if q.length < 9 then 3 else if 1048576 < sz q then 3 else if q.length < sz q + 9 then 3 else if val ((q.drop (5 + sz q)).take 4) = sum (q.take (5 + sz q)) then 0 else 4
def errAt (l : List Nat) (i : Int) : Nat := if i < 0 ∨ (l.length : Int) < i then 1 else errOf (l.drop i.toNat)
def kindAt (l : List Nat) (i : Int) : Nat := if errAt l i = 0 then (l.drop i.toNat).getD 4 0 else 0
def bodyAt (l : List Nat) (i : Int) : List Nat := if errAt l i = 0 then ((l.drop i.toNat).drop 5).take (sz (l.drop i.toNat)) else []
def endAt (l : List Nat) (i : Int) : Int := if errAt l i = 0 then i + 9 + sz (l.drop i.toNat) else 0
theorem kind_err {l : List Nat} {i : Int} (h : errAt l i ≠ 0) : kindAt l i = 0 := if_neg h
theorem body_err {l : List Nat} {i : Int} (h : errAt l i ≠ 0) : bodyAt l i = [] := if_neg h
theorem end_err {l : List Nat} {i : Int} (h : errAt l i ≠ 0) : endAt l i = 0 := if_neg h
end Pg
def RetQ (w : World) (l : List Nat) (i : Int) (e : Ending) (w' : World) : Prop := ∃ A cap, e = .returned (.tuple #[.int .u8 (Pg.kindAt l i : Nat), .slice A (Pg.bodyAt l i).length cap, .int .i64 (Pg.endAt l i), .int .i64 (Pg.errAt l i : Nat)]) ∧
 ByAt w' A (Pg.bodyAt l i) ∧ (Pg.bodyAt l i).length ≤ cap ∧ cap ≤ maxLen ∧ Below w.heap.size w w'
theorem RetQ.err {w w' : World} {l : List Nat} {i : Int} (c : Nat) (h : Pg.errAt l i = c) (hc : c ≠ 0) (hb : Below w.heap.size w w') : RetQ w l i (.returned (.tuple #[.int .u8 0, .slice none 0 0, .int .i64 0, .int .i64 (c : Nat)])) w' := by
 have h0 : Pg.errAt l i ≠ 0 := by rw [h]; exact hc
 refine ⟨none, 0, ?_, ?_, ?_, Nat.zero_le _, hb⟩
 ·rw [Pg.kind_err h0, Pg.body_err h0, Pg.end_err h0, h]; rfl
 ·rw [Pg.body_err h0]; exact ByAt.nil _ _
 ·rw [Pg.body_err h0]; exact Nat.le_refl _
theorem wordOf_at (a : Option Addr) (l : List Nat) (len cap : Nat) (hlen : Hid (len = l.length)) (h4 : 4 ≤ len) (hl : len ≤ maxLen) (w : World) (HA : Hid (ByAt w a l)) :
  Calls Tryz.prog 112 #[.slice a len cap] w fun e w' => e = .returned (.int .u32 (Pg.sz l : Nat)) ∧ Below w.heap.size w w' :=
 (wordOf_any a l len cap hlen h4 hl w HA).mono fun _ _ ⟨h, n, hn⟩ => ⟨h, by rw [hn]; exact below_drewN (Below.refl _ _) n⟩
theorem wordOf_q (a : Option Addr) (l : List Nat) (N : Nat) (hN : Pg.val (l.take 4) = N) (len cap : Nat) (hlen : Hid (len = l.length)) (h4 : 4 ≤ len) (hl : len ≤ maxLen) (w : World) (HA : Hid (ByAt w a l)) :
  Calls Tryz.prog 112 #[.slice a len cap] w fun e w' => e = .returned (.int .u32 (N : Nat)) ∧ ∃ n, w' = w.drewN n := by
 rw [← hN]; exact wordOf_any a l len cap hlen h4 hl w HA
theorem sum_q (a : Option Addr) (l : List Nat) (N : Nat) (hN : Pg.sum l = N) (len cap : Nat) (hlen : Hid (len = l.length)) (hl : len ≤ maxLen) (w : World) (HA : Hid (ByAt w a l)) (HG : Hid (HalvesAt w)) :
  Calls Tryz.prog 102 #[.slice a len cap] w fun e w' => e = .returned (.int .u32 (N : Nat)) ∧ w' = w := by
 rw [← hN]; exact (sum_any a l len cap hlen hl w HA HG).mono fun _ _ ⟨h, hw⟩ => ⟨h, hw.symm⟩
set_option maxHeartbeats 1000000 in
theorem read_arg (a : Option Addr) (l : List Nat) (len cap : Nat) (i : Int) (hlen : Hid (len = l.length)) (hl : len ≤ maxLen) (hi : i < 0 ∨ (len : Int) < i) (w : World) :
  Calls Tryz.prog 89 #[.slice a len cap, .int .i64 i] w (RetQ w l i) := by
 have he : Hid (Pg.errAt l i = 1) := Lib.hid (by unfold Pg.errAt; rw [if_pos]; rw [← hlen.out]; exact hi)
 unfold maxLen at hl
 by_cases h0 : i < 0
 all_goals
  (try (have h1 : (len : Int) < i := by omega))
  clear hi
  go_enter Tryz.func89, Tryz.ntmps89
  go_wp2
  refine bodyPost_ret (results_tmp4 rfl _ _ _) rfl ?_
  exact RetQ.err 1 he.out (by decide) (Below.refl _ _)
structure Rest (w : World) (a : Option Addr) (l : List Nat) (len cap k : Nat) (A : Option Addr) (n C : Nat) (q : List Nat) : Prop where
 run : ∀ w, (Instr.slice 32 (.slice a len cap) (some (.int .i64 (k : Int))) none none).run Tryz.prog w = .ok (.slice A n C) w
 len : Hid (n = q.length)
 cap : n ≤ C
 cap' : C ≤ maxLen
 byAt : Hid (ByAt w A q)
 err : Pg.errAt l (k : Int) = Pg.errOf q
 drop : l.drop ((k : Int)).toNat = q
theorem rest_of (a : Option Addr) (l : List Nat) (len cap k : Nat) (hlen : Hid (len = l.length)) (hk : k ≤ len) (hc : len ≤ cap) (hl : cap ≤ maxLen) (w : World) (HA : Hid (ByAt w a l)) :
  ∃ A n C q, Rest w a l len cap k A n C q := by
 obtain ⟨A, C, hr, h1, h2, h3⟩ := cut_from a len cap k hk hc
 refine ⟨A, len - k, C, l.drop k, hr, Lib.hid (by rw [List.length_drop, hlen.out]), h1, by omega, Lib.hid (h3 w l hlen.out HA.out), ?_, rfl⟩
 unfold Pg.errAt
 rw [if_neg (by have := hlen.out; omega)]; rfl
set_option maxHeartbeats 1000000 in
theorem read_short (a : Option Addr) (l : List Nat) (len cap k : Nat) (hk : k ≤ len) (A : Option Addr) (n C : Nat) (q : List Nat) (w : World) (R : Hid (Rest w a l len cap k A n C q)) (hn : n < 9) (hl : len ≤ maxLen) :
  Calls Tryz.prog 89 #[.slice a len cap, .int .i64 (k : Int)] w (RetQ w l k) := by
 have he : Hid (Pg.errAt l k = 3) := Lib.hid (by rw [R.out.err]; unfold Pg.errOf; rw [if_pos (by rw [← R.out.len.out]; exact hn)])
 have hr := R.out.run
 have h1 : ¬ (len : Int) < (k : Int) := by omega
 unfold maxLen at hl
 go_enter Tryz.func89, Tryz.ntmps89
 go_wp2
 refine bodyPost_ret (results_tmp4 rfl _ _ _) rfl ?_
 exact RetQ.err 3 he.out (by decide) (Below.refl _ _)
set_option maxHeartbeats 1000000 in
theorem read_long (a : Option Addr) (l : List Nat) (len cap k : Nat) (hk : k ≤ len) (A : Option Addr) (n C : Nat) (q : List Nat) (w : World) (R : Hid (Rest w a l len cap k A n C q)) (hn : ¬ n < 9) (hl : len ≤ maxLen)
  (hs : 1048576 < Pg.sz q ∨ n < Pg.sz q + 9) (hz : Pg.sz q < 4294967296) :
  Calls Tryz.prog 89 #[.slice a len cap, .int .i64 (k : Int)] w (RetQ w l k) := by
 have hc' := R.out.cap'
 have hcn := R.out.cap
 have he : Hid (Pg.errAt l k = 3) := Lib.hid (by
  have hq := R.out.len.out
  rw [R.out.err]; unfold Pg.errOf
  rw [if_neg (by omega)]
  by_cases h : 1048576 < Pg.sz q
  ·rw [if_pos h]
  ·rw [if_neg h, if_pos (by omega)])
 have hr := R.out.run
 have HL := R.out.len
 have HQ := R.out.byAt
 have h1 : ¬ (len : Int) < (k : Int) := by omega
 unfold maxLen at hl hc'
 obtain ⟨N, hN⟩ : ∃ N, N = Pg.sz q := ⟨_, rfl⟩
 rw [← hN] at hs hz
 have HN := Lib.hid hN
 clear hN
 by_cases h2 : 1048576 < N
 all_goals
  (try (have h3 : n < N + 9 := by omega))
  clear hs
  go_enter Tryz.func89, Tryz.ntmps89
  go_wp2_with (go_at_call 112; (refine (wordOf_at A q n C HL (by omega) (by unfold maxLen; omega) w HQ).mono ?_); rintro e w2 ⟨rfl, hb⟩; rw [← HN.out]; have HB := Lib.hid hb; clear hb)
  refine bodyPost_ret (results_tmp4 rfl _ _ _) rfl ?_
  exact RetQ.err 3 he.out (by decide) HB.out
namespace Pg
def front (kind : Nat) (body : List Nat) : List Nat := four body.length ++ kind :: body
def lay (kind : Nat) (body : List Nat) : List Nat := front kind body ++ four (sum (front kind body))
theorem front_len (kind : Nat) (body : List Nat) : (front kind body).length = 5 + body.length := by unfold front four; simp; omega
theorem front_lt (kind : Nat) (body : List Nat) (hk : kind < 256) (hb : ∀ x ∈ body, x < 256) : ∀ x ∈ front kind body, x < 256 := by
 intro x hx
 unfold front at hx
 rcases List.mem_append.1 hx with h | h
 ·exact four_lt _ x h
 ·rcases List.mem_cons.1 h with h | h
  ·omega
  ·exact hb x h
end Pg
theorem sp1 {α : Type} (L Y body : List α) (x0 x1 x2 x3 x4 : α) : splice (L ++ x0 :: x1 :: x2 :: x3 :: x4 :: Y) (L.length + 5) body = L ++ (x0 :: x1 :: x2 :: x3 :: x4 :: (body ++ Y.drop body.length)) := by
 unfold splice
 rw [List.take_length_add_append, Nat.add_assoc, List.drop_length_add_append, Nat.add_comm 5]
 simp
theorem sp2 {α : Type} (L Y : List α) (x0 x1 x2 x3 : α) (f0 f1 f2 f3 : α) : splice (L ++ x0 :: x1 :: x2 :: x3 :: Y) L.length [f0, f1, f2, f3] = L ++ (f0 :: f1 :: f2 :: f3 :: Y) := by
 unfold splice
 rw [List.take_append_of_le_length (Nat.le_refl _), List.take_length, List.drop_length_add_append]
 simp
theorem sp3 {α : Type} (L Y : List α) (f0 f1 f2 f3 x v : α) : (L ++ f0 :: f1 :: f2 :: f3 :: x :: Y).set (L.length + 4) v = L ++ (f0 :: f1 :: f2 :: f3 :: v :: Y) := by
 rw [List.set_append_right _ _ (by omega), Nat.add_sub_cancel_left]; rfl
theorem sp4 {α : Type} (L Y body : List α) (f0 f1 f2 f3 v : α) : (L ++ (f0 :: f1 :: f2 :: f3 :: v :: (body ++ Y))).take (L.length + (5 + body.length)) = L ++ (f0 :: f1 :: f2 :: f3 :: v :: body) := by
 rw [List.take_length_add_append, Nat.add_comm 5]
 simp
theorem lay_row (cs : List Value) (l : List Nat) (n m kind : Nat) (body : List Nat) (hcs : cs.take n = bys l) (hn : n = l.length) (hm : m = body.length) (hc : n + 9 + m ≤ cs.length) :
  ((splice (splice cs (n + 5) (bys body)) n (bys (Pg.four m))).set (n + 4) (bv kind)).take (n + 5 + m) = bys (l ++ Pg.front kind body) := by
 obtain ⟨x, rfl⟩ : ∃ x, cs = bys l ++ x := ⟨cs.drop n, by rw [← hcs, List.take_append_drop]⟩
 have hll : (bys l).length = n := by rw [bys_length, hn]
 rw [List.length_append, hll] at hc
 obtain ⟨x0, x1, x2, x3, x4, y, rfl⟩ : ∃ x0 x1 x2 x3 x4 y, x = x0 :: x1 :: x2 :: x3 :: x4 :: y := by
  match x, hc with
  | x0 :: x1 :: x2 :: x3 :: x4 :: y, _ => exact ⟨x0, x1, x2, x3, x4, y, rfl⟩
  | [_, _, _, _], h => simp at h; omega
  | [_, _, _], h => simp at h; omega
  | [_, _], h => simp at h; omega
  | [_], h => simp at h; omega
  | [], h => simp at h; omega
 have hbl : (bys body).length = m := by rw [bys_length, hm]
 have e4 := sp4 (bys l) (y.drop (bys body).length) (bys body) (bv (m % 256)) (bv (m / 256 % 256)) (bv (m / 65536 % 256)) (bv (m / 16777216 % 256)) (bv kind)
 rw [hll, hbl, ← Nat.add_assoc] at e4
 have e1 := sp1 (bys l) y (bys body) x0 x1 x2 x3 x4
 rw [hll] at e1
 rw [e1]
 have e2 := sp2 (bys l) (x4 :: (bys body ++ y.drop (bys body).length)) x0 x1 x2 x3 (bv (m % 256)) (bv (m / 256 % 256)) (bv (m / 65536 % 256)) (bv (m / 16777216 % 256))
 rw [hll] at e2
 rw [show bys (Pg.four m) = [bv (m % 256), bv (m / 256 % 256), bv (m / 65536 % 256), bv (m / 16777216 % 256)] from rfl, e2]
 have e3 := sp3 (bys l) (bys body ++ y.drop (bys body).length) (bv (m % 256)) (bv (m / 256 % 256)) (bv (m / 65536 % 256)) (bv (m / 16777216 % 256)) x4 (bv kind)
 rw [hll] at e3
 rw [e3, hbl, e4]
 unfold Pg.front
 rw [← hm, bys_append, bys_append]
 rfl
theorem Roomy.splice1 {w : World} {B g n m cap : Nat} {cs : List Value} {l body : List Nat} (h : Roomy w B g n cap cs l) (hm : m = body.length) (hc : n + (5 + m + 4) ≤ cap) : n + 5 + (bys body).length ≤ cs.length := by
 have := h.size
 rw [bys_length]; omega
theorem by_word' {w : World} (n : Nat) : ∀ (j : Nat) (v : Value), (bys (Pg.four n))[j]? = some v → (w.alloc (.cells (fourC n) 5)).drew.cell? ((⟨w.heap.size, 0, none⟩ : Addr).add j) = some v := fun j v hj =>
 World.news_of_block (w := (w.alloc (.cells (fourC n) 5)).drew) (heap_alloc_new' w _) j v (by rw [fourC_list]; exact hj)
theorem four_min (m : Nat) : (bys (Pg.four m)).length = Nat.min 4 (5 + m) := by
 rw [show (bys (Pg.four m)).length = 4 from rfl]; exact (Nat.min_eq_left (by omega)).symm
theorem HalvesAt.keepB {w w' : World} {B : Nat} (h : HalvesAt w) (hb : Below B w w') (hB : 2 < B) : HalvesAt w' := fun i hi =>
 (hb.cell (p := ⟨2, i, none⟩) hB).trans (h i hi)
theorem by_four (w : World) (n : Nat) : ByAt (w.alloc (.cells (fourC n) 5)) (some ⟨w.heap.size, 0, none⟩) (Pg.four n) := ByAt.of_row _ (Pg.four_lt n) (heap_alloc_new' w _) (by rw [fourC_list]; exact ⟨[], by simp⟩)
theorem by_four_set (w : World) (a : Addr) (u : Value) (n : Nat) : ByAt ((w.setCell a u).alloc (.cells (fourC n) 5)) (some ⟨w.heap.size, 0, none⟩) (Pg.four n) := by rw [← setCell_size w a u]; exact by_four _ _
def RetL (w : World) (B n : Nat) (l : List Nat) (e : Ending) (w' : World) : Prop := ∃ A cap, e = .returned (.slice A n cap) ∧ OwnS w' B A n cap l ∧ Below B w w'
set_option maxHeartbeats 4000000 in
theorem lay_core (n m c cap0 : Nat) (A : Option Addr) (l : List Nat) (kind : Nat) (b : Option Addr) (body : List Nat) (B : Nat) (w : World) (HGr : Hid (Calls Tryz.prog 100 #[.slice A n cap0, .int .i64 ((5 + m + 4 : Nat) : Int)] w (RetG w B n (5 + m + 4) l)))
  (hn : Hid (n = l.length)) (hm : Hid (m = body.length)) (hsmall : n + m ≤ 1000000) (hk : kind < 256) (HB : Hid (ByAt w b body)) (HG : Hid (HalvesAt w)) (hBw : B ≤ w.heap.size) (hGB : 2 < B) :
  Calls Tryz.prog 81 #[.slice A n cap0, .int .u8 (kind : Int), .slice b m c] w (RetL w B (n + 5 + m + 4) (l ++ Pg.lay kind body)) := by
 have HN5 : Hid ((5 : Int) + (m : Int) + 4 = ((5 + m + 4 : Nat) : Int)) := Lib.hid (by omega)
 go_enter Tryz.func81, Tryz.ntmps81
 go_wp2_with (first | (go_at_call 100; rw [HN5.out]; refine HGr.out.mono ?_; rintro e w1 ⟨g, cap, cs, rfl, hR, hcap, hb⟩; have HR := Lib.hid hR; have HB1 := Lib.hid hb; clear hR hb; have r1 : ∀ w, (Instr.slice 32 (.slice (some ⟨g, 0, none⟩) n cap) none (some (.int .i64 ((n : Int) + 5 + (m : Int)))) none).run Tryz.prog w = .ok (.slice (some ⟨g, 0, none⟩) (n + 5 + m) cap) w := row_to g n cap (n + 5 + m) (by omega); have r2 : ∀ w, (Instr.slice 32 (.slice (some ⟨g, 0, none⟩) (n + 5 + m) cap) (some (.int .i64 ((n : Int) + 5))) none none).run Tryz.prog w = .ok (.slice (some ⟨g, n + 5, none⟩) m (cap - (n + 5))) w := row_from' g (n + 5 + m) cap (n + 5) m (by omega) (by omega); have r3 : ∀ w, (Instr.slice 32 (.slice (some ⟨g, 0, none⟩) (n + 5 + m) cap) (some (.int .i64 (n : Int))) none none).run Tryz.prog w = .ok (.slice (some ⟨g, n, none⟩) (5 + m) (cap - n)) w := row_from' g (n + 5 + m) cap n (5 + m) (by omega) (by omega)) | (refine wpList_copy_splice rfl (.tmp 25) (.tmp 26) 32 32 rfl 5 Tryz.underlying32 sizeU8 (some ⟨g, n + 5, none⟩) b m (cap - (n + 5)) m c rfl rfl g (n + 5) cs 5 HR.out.row (bys body) ?q1 ?q2 ?q3 (bys_one body) B w ?q4 HR.out.base ?_; (case q1 => exact (by rw [bys_length, ← hm.out]; exact (Nat.min_self m).symm)); (case q2 => exact fun _ => copy_src rfl HB HB1.out ‹_›); (case q3 => exact HR.out.splice1 hm.out hcap); (case q4 => exact HB1.out.mono hBw); intro w2 HR2 hb2; have HB2 := Lib.hid hb2; clear hb2))
 have hm32 : m < 4294967296 := by omega
 have hl2 : (splice cs (n + 5) (bys body)).length = cap := by rw [splice_len _ _ _ (HR.out.splice1 hm.out hcap), HR.out.size]
 have hfit : n + (bys (Pg.four m)).length ≤ (splice cs (n + 5) (bys body)).length := by rw [hl2, show (bys (Pg.four m)).length = 4 from rfl]; omega
 have HL2 := Lib.hid hl2
 have HF := Lib.hid hfit
 clear hl2 hfit
 refine wp_region_any (by kernel_rfl) ?_
 try (change wpAny _ _ _ _ _ _ _ (World.drew _))
 refine wpAny_take (i := 0) (v := .slice (some ⟨g, 0, none⟩) (n + 5 + m) cap) rfl (by kernel_rfl) (by kernel_rfl) (by kernel_rfl) (fun _ _ _ h => h) (Or.inl ⟨by rfl, fun _ => rfl⟩) ?_
 try dsimp only
 try simp only [Act.put, List.setIfInBounds_toArray, List.set_cons_zero, List.set_cons_succ]
 refine wpAny_take (i := 1) (v := .int .i64 (n : Int)) rfl (by kernel_rfl) (by kernel_rfl) (by kernel_rfl) (fun _ _ _ h => h) (Or.inl ⟨by rfl, fun _ => rfl⟩) ?_
 try dsimp only
 try simp only [Act.put, List.setIfInBounds_toArray, List.set_cons_zero, List.set_cons_succ]
 refine wpAny_take (i := 2) (v := .slice (some ⟨g, n, none⟩) (5 + m) (cap - n)) rfl (by kernel_rfl) (by kernel_rfl) (by kernel_rfl) (fun _ _ _ h => h) (Or.inl ⟨by rfl, fun w => ?_⟩) ?_
 ·go_simp
 try dsimp only
 try simp only [Act.put, List.setIfInBounds_toArray, List.set_cons_zero, List.set_cons_succ]
 refine wpAny_take (i := 3) (v := .slice b m c) rfl (by kernel_rfl) (by kernel_rfl) (by kernel_rfl) (fun _ _ _ h => h) (Or.inl ⟨by rfl, fun _ => rfl⟩) ?_
 try dsimp only
 try simp only [Act.put, List.setIfInBounds_toArray, List.set_cons_zero, List.set_cons_succ]
 refine wpAny_take (i := 4) (v := .int .i64 (m : Int)) rfl (by kernel_rfl) (by kernel_rfl) (by kernel_rfl) (fun _ _ _ h => h) (Or.inl ⟨by rfl, fun w => ?_⟩) ?_
 ·go_simp
 try dsimp only
 try simp only [Act.put, List.setIfInBounds_toArray, List.set_cons_zero, List.set_cons_succ]
 refine wpAny_take (i := 5) (v := .int .u32 (m : Int)) rfl (by kernel_rfl) (by kernel_rfl) (by kernel_rfl) (fun _ _ _ h => h) (Or.inl ⟨by rfl, fun w => ?_⟩) ?_
 ·go_simp
  rw [IntKind.wrap_u32']; omega
 try dsimp only
 try simp only [Act.put, List.setIfInBounds_toArray, List.set_cons_zero, List.set_cons_succ]
 refine wpAny_ready (rs := [6]) (by kernel_rfl) (by simp) (AllReady.cons rfl (fun K hK => ?_) AllReady.nil)
 go_simp
 refine (word_any m hm32 _).mono ?_
 rintro e w3 ⟨rfl, rfl⟩
 refine hK _ _ ?_
 clear hK K
 try dsimp only
 try simp only [Act.put, List.setIfInBounds_toArray, List.set_cons_zero, List.set_cons_succ]
 refine wpAny_ready (rs := [7]) (by kernel_rfl) (by simp) (AllReady.cons rfl (fun K hK => ?_) AllReady.nil)
 refine step_copy_splice ?g0 (.tmp 30) (.tmp 34) 32 32 ?g1 5 Tryz.underlying32 sizeU8 (some ⟨g, n, none⟩) (some ⟨w2.heap.size, 0, none⟩) (5 + m) (cap - n) 4 4 ?g2 ?g3 g n (splice cs (n + 5) (bys body)) 5 ?g4 (bys (Pg.four m)) ?g5 ?g6 HF.out (bys_one _) B w ?g7 HR.out.base ?g8
 case g0 => rfl
 case g1 => rfl
 case g2 => rfl
 case g3 => rfl
 case g4 => exact row_new HR2
 case g5 => exact four_min m
 case g6 => exact fun _ => ⟨rfl, _, rfl, by_word' m⟩
 case g7 => exact (HB2.out.alloc (Nat.le_trans hBw HB2.out.size) _).drew
 case g8 =>
  intro w4 HR4 hb4
  refine hK _ _ ?_
  clear hK K
  refine wpAny_done (by kernel_rfl) ?_ _
  have HB4 := Lib.hid hb4
  clear hb4
  have hl4 : (splice (splice cs (n + 5) (bys body)) n (bys (Pg.four m))).length = cap := by rw [splice_len _ _ _ HF.out, HL2.out]
  have hi4 : n + 4 < (splice (splice cs (n + 5) (bys body)) n (bys (Pg.four m))).length := by rw [hl4]; omega
  have hc4 := row_cell HR4.out (n + 4) hi4
  have hf4 := row_frozen HR4.out (n + 4)
  have HR5 := Lib.hid (row_set HR4.out (n + 4) (bv kind))
  have hfl := Pg.front_lt kind body hk HB.out.lt
  have HO5 : Hid (OwnS (w4.setCell ⟨g, n + 4, none⟩ (.int .u8 (kind : Int))) B (some ⟨g, 0, none⟩) (n + 5 + m) cap (l ++ Pg.front kind body)) := Lib.hid
   (OwnS.of_row (cs := (splice (splice cs (n + 5) (bys body)) n (bys (Pg.four m))).set (n + 4) (bv kind)) HR5.out (by rw [List.length_set, hl4]) HR.out.cap (by rw [List.length_append, Pg.front_len, ← hn.out, ← hm.out]; omega)
    (lay_row cs l n m kind body HR.out.first hn.out hm.out (by rw [HR.out.size]; omega)) HR.out.base (fun x hx => (List.mem_append.1 hx).elim (HR.out.lt x) (hfl x)))
  have HA5 := Lib.hid (HO5.out.byAt.shift hn.out)
  have HB5 : Hid (Below B w (w4.setCell ⟨g, n + 4, none⟩ (.int .u8 (kind : Int)))) := Lib.hid (HB4.out.setCell HR.out.base _)
  have HG5 : Hid (HalvesAt (w4.setCell ⟨g, n + 4, none⟩ (.int .u8 (kind : Int)))) := Lib.hid (HG.out.keepB HB5.out hGB)
  have hs32 : Pg.sum (Pg.front kind body) < 4294967296 := Pg.sum_lt hfl
  have hlf : Hid (5 + m = (Pg.front kind body).length) := Lib.hid (by rw [Pg.front_len, hm.out])
  generalize (splice (splice cs (n + 5) (bys body)) n (bys (Pg.four m))) = cs4 at *
  clear hl4 hfl
  generalize cs4[n + 4] = x4 at *
  have HS5 : Hid (B ≤ (w4.setCell ⟨g, n + 4, none⟩ (.int .u8 (kind : Int))).heap.size) := Lib.hid (Nat.le_trans hBw HB5.out.size)
  go_wp2_with (first | (go_at_call 102; refine (sum_any _ _ _ _ hlf (by unfold maxLen; omega) _ HA5 HG5).mono ?_; rintro e w6 ⟨rfl, rfl⟩) | (go_at_call 101; refine (word_any _ hs32 _).mono ?_; rintro e w6 ⟨rfl, rfl⟩) | (at_builtin; refine wpList_append_by rfl (.tmp 41) (.tmp 46) rfl B (some ⟨g, 0, none⟩) (n + 5 + m) cap (l ++ Pg.front kind body) rfl (HO5.out.keep ((Below.refl _ _).alloc (Nat.le_refl _) _)) (some ⟨w4.heap.size, 0, none⟩) 4 4 (Pg.four (Pg.sum (Pg.front kind body))) rfl rfl (by_four_set _ _ _ _) (by omega) (by_size HS5) ?_; intro A' cap' w7 hO hG hL))
  go_ret
  refine ⟨A', cap', ?_, ?_, ?_⟩
  ·exact ret_eqP rfl
  ·rw [List.append_assoc] at hO; exact hO
  ·exact (HB5.out.alloc HS5.out _).grown hG (by_size HS5) (by intro k hk; simp at hk; have := HR.out.base; omega)
theorem lay_any (A : Option Addr) (n cap0 : Nat) (l : List Nat) (kind : Nat) (b : Option Addr) (m c : Nat) (body : List Nat) (B : Nat) (w : World) (HO : Hid (OwnS w B A n cap0 l)) (hm : Hid (m = body.length)) (hsmall : n + m ≤ 1000000) (hk : kind < 256)
  (HB : Hid (ByAt w b body)) (HG : Hid (HalvesAt w)) (hBw : B ≤ w.heap.size) (hGB : 2 < B) :
  Calls Tryz.prog 81 #[.slice A n cap0, .int .u8 (kind : Int), .slice b m c] w (RetL w B (n + 5 + m + 4) (l ++ Pg.lay kind body)) :=
 lay_core n m c cap0 A l kind b body B w (Lib.hid (grow_any A n cap0 l (5 + m + 4) B w HO (by omega) (by omega) hBw)) (Lib.hid HO.out.len) hm hsmall hk HB HG hBw hGB
theorem drewN_halves {w : World} (h : Hid (HalvesAt w)) (n : Nat) : Hid (HalvesAt (w.drewN n)) := Lib.hid (h.out.keep (below_drewN (Below.refl _ _) n))
theorem tup4_eq {a a' : Int} {A : Option Addr} {n n' c : Nat} {i i' e e' : Int} (h1 : a = a') (h2 : n = n') (h3 : i = i') (h4 : e = e') :
  Ending.returned (.tuple #[.int .u8 a, .slice A n c, .int .i64 i, .int .i64 e]) = Ending.returned (.tuple #[.int .u8 a', .slice A n' c, .int .i64 i', .int .i64 e']) := by rw [h1, h2, h3, h4]
set_option maxHeartbeats 2000000 in
theorem read_sum (a : Option Addr) (l : List Nat) (len cap k : Nat) (hk : k ≤ len) (A : Option Addr) (n C : Nat) (q : List Nat) (w : World) (R : Hid (Rest w a l len cap k A n C q)) (hl : len ≤ maxLen) (HG : Hid (HalvesAt w))
  (N V S : Nat) (HN : Hid (N = Pg.sz q)) (h1 : N ≤ 1048576) (h2 : N + 9 ≤ n) (HV : Hid (Pg.val ((q.drop (5 + N)).take 4) = V)) (HS : Hid (Pg.sum (q.take (5 + N)) = S)) (hne : ((V : Int) != (S : Int)) = true) :
  Calls Tryz.prog 89 #[.slice a len cap, .int .i64 (k : Int)] w (RetQ w l k) := by
 have hc' := R.out.cap'
 have hcn := R.out.cap
 have he : Hid (Pg.errAt l k = 4) := Lib.hid (by
  have hq := R.out.len.out
  rw [R.out.err]; unfold Pg.errOf
  rw [if_neg (by omega), ← HN.out, if_neg (by omega), if_neg (by omega), if_neg]
  rw [HV.out, HS.out]; rw [bne_iff_ne] at hne; omega)
 have hr := R.out.run
 have HL := R.out.len
 have HQ := R.out.byAt
 obtain ⟨A1, C1, r1, d1, d2, d3⟩ := cut_from A n C (5 + N) (by omega) hcn
 obtain ⟨A2, r2, d4⟩ := cut_to A n C (5 + N) (by omega) hcn
 have r1 : ∀ w, (Instr.slice 32 (.slice A n C) (some (.int .i64 (5 + (N : Int)))) none none).run Tryz.prog w = .ok (.slice A1 (n - (5 + N)) C1) w := r1
 have r2 : ∀ w, (Instr.slice 32 (.slice A n C) none (some (.int .i64 (5 + (N : Int)))) none).run Tryz.prog w = .ok (.slice A2 (5 + N) C) w := r2
 have D3 := Lib.hid d3
 have D4 := Lib.hid d4
 have L1 : Hid (n - (5 + N) = (q.drop (5 + N)).length) := Lib.hid (by rw [List.length_drop, HL.out])
 have L2 : Hid (5 + N = (q.take (5 + N)).length) := Lib.hid (by rw [List.length_take, ← HL.out]; omega)
 clear d3 d4
 have g1 : ¬ (len : Int) < (k : Int) := by omega
 have g2 : 4 ≤ n - (5 + N) := by omega
 have g3 : n - (5 + N) ≤ maxLen := by omega
 have g4 : 5 + N ≤ maxLen := by unfold maxLen; omega
 unfold maxLen at hl hc'
 go_enter Tryz.func89, Tryz.ntmps89
 go_wp2_with (go_at_call 112; (refine (wordOf_at A q n C HL (by omega) (by unfold maxLen; omega) w HQ).mono ?_); rintro e w2 ⟨rfl, hb⟩; rw [← HN.out]; have HB := Lib.hid hb; clear hb; have HQ2 := ByAt.at HQ HB.out; have HG2 := HalvesAt.at HG HB.out)
 go_quiet ((first
  | (go_at_call 112; exact Calls.quiet_of (wordOf_q A1 _ V HV.out _ _ L1 g2 g3 _ (drewN_by (Lib.hid (D3.out _ _ HL.out HQ2.out)) _)))
  | (go_at_call 102; exact Calls.quiet_of_same (sum_q A2 _ S HS.out _ _ L2 g4 _ (drewN_by (Lib.hid (D4.out _ _ HL.out HQ2.out)) _) (drewN_halves HG2 _)))))
 go_wp2
 refine bodyPost_ret (results_tmp4 rfl _ _ _) rfl ?_
 exact RetQ.err 4 he.out (by decide) (below_drewN HB.out _)
set_option maxHeartbeats 2000000 in
theorem read_ok (a : Option Addr) (l : List Nat) (len cap k : Nat) (hk : k ≤ len) (A : Option Addr) (n C : Nat) (q : List Nat) (w : World) (R : Hid (Rest w a l len cap k A n C q)) (hl : len ≤ maxLen) (HG : Hid (HalvesAt w))
  (N V : Nat) (HN : Hid (N = Pg.sz q)) (h1 : N ≤ 1048576) (h2 : N + 9 ≤ n) (hkn : Hid (k + n = len)) (HV : Hid (Pg.val ((q.drop (5 + N)).take 4) = V)) (HS : Hid (Pg.sum (q.take (5 + N)) = V)) :
  Calls Tryz.prog 89 #[.slice a len cap, .int .i64 (k : Int)] w (RetQ w l k) := by
 have hc' := R.out.cap'
 have hcn := R.out.cap
 have he : Hid (Pg.errAt l k = 0) := Lib.hid (by
  have hq := R.out.len.out
  rw [R.out.err]; unfold Pg.errOf
  rw [if_neg (by omega), ← HN.out, if_neg (by omega), if_neg (by omega), if_pos]
  rw [HV.out, HS.out])
 have hr := R.out.run
 have HL := R.out.len
 have HQ := R.out.byAt
 have hb : Hid (Pg.bodyAt l k = (q.drop 5).take N) := Lib.hid (by unfold Pg.bodyAt; rw [if_pos he.out, R.out.drop, ← HN.out])
 have hE : Hid (Pg.endAt l k = (k : Int) + 9 + N) := Lib.hid (by unfold Pg.endAt; rw [if_pos he.out, R.out.drop, ← HN.out])
 obtain ⟨A1, C1, r1, d1, d2, d3⟩ := cut_from A n C (5 + N) (by omega) hcn
 obtain ⟨A2, r2, d4⟩ := cut_to A n C (5 + N) (by omega) hcn
 obtain ⟨A3, C3, r3, d5, d6, d7⟩ := cut_mid A n C 5 (5 + N) (by omega) (by omega) hcn
 have r1 : ∀ w, (Instr.slice 32 (.slice A n C) (some (.int .i64 (5 + (N : Int)))) none none).run Tryz.prog w = .ok (.slice A1 (n - (5 + N)) C1) w := r1
 have r2 : ∀ w, (Instr.slice 32 (.slice A n C) none (some (.int .i64 (5 + (N : Int)))) none).run Tryz.prog w = .ok (.slice A2 (5 + N) C) w := r2
 have r3 : ∀ w, (Instr.slice 32 (.slice A n C) (some (.int .i64 5)) (some (.int .i64 (5 + (N : Int)))) none).run Tryz.prog w = .ok (.slice A3 N C3) w := by rw [show 5 + N - 5 = N by omega] at r3; exact r3
 have D3 := Lib.hid d3
 have D4 := Lib.hid d4
 have D7 := Lib.hid d7
 have L1 : Hid (n - (5 + N) = (q.drop (5 + N)).length) := Lib.hid (by rw [List.length_drop, HL.out])
 have L2 : Hid (5 + N = (q.take (5 + N)).length) := Lib.hid (by rw [List.length_take, ← HL.out]; omega)
 have L3 : Hid (N = ((q.drop 5).take (5 + N - 5)).length) := Lib.hid (by rw [List.length_take, List.length_drop, ← HL.out]; omega)
 have h4 : 4 < q.length := by have := HL.out; omega
 have HK : Hid (Pg.kindAt l k = q[4]) := Lib.hid (by unfold Pg.kindAt; rw [if_pos he.out, R.out.drop, List.getD_eq_getElem?_getD, List.getElem?_eq_getElem h4]; rfl)
 have HC := Lib.hid (HQ.out 4 q[4] (List.getElem?_eq_getElem h4))
 generalize q[4] = κ at *
 obtain ⟨-, g, off, rfl, hg, hcell⟩ := HC.out
 have HC := Lib.hid hcell
 clear hcell d3 d4 d7 d5 d6
 have g1 : ¬ (len : Int) < (k : Int) := by omega
 have g2 : 4 ≤ n - (5 + N) := by omega
 have g3 : n - (5 + N) ≤ maxLen := by omega
 have g4 : 5 + N ≤ maxLen := by unfold maxLen; omega
 have g5 : (4 : Int) < (n : Int) := by omega
 have g6 : (k : Int) + (5 + N) + 4 ≤ len := by have := hkn.out; omega
 unfold maxLen at hl hc'
 go_enter Tryz.func89, Tryz.ntmps89
 go_wp2_with (go_at_call 112; (refine (wordOf_at (some ⟨g, off, none⟩) q n C HL (by omega) (by unfold maxLen; omega) w HQ).mono ?_); rintro e w2 ⟨rfl, hb⟩; rw [← HN.out]; have HB := Lib.hid hb; clear hb; have HQ2 := ByAt.at HQ HB.out; have HG2 := HalvesAt.at HG HB.out)
 go_quiet ((first
  | (go_at_call 112; exact Calls.quiet_of (wordOf_q A1 _ V HV.out _ _ L1 g2 g3 _ (drewN_by (Lib.hid (D3.out _ _ HL.out HQ2.out)) _)))
  | (go_at_call 102; exact Calls.quiet_of_same (sum_q A2 _ V HS.out _ _ L2 g4 _ (drewN_by (Lib.hid (D4.out _ _ HL.out HQ2.out)) _) (drewN_halves HG2 _)))))
 go_wp2
 have hcell : w2.cell? ⟨g, off + 4, none⟩ = some (.int .u8 (κ : Int)) := (HB.out.cell (p := ⟨g, off + 4, none⟩) hg).trans HC.out
 have hcell' : (w2.drewN nq).drew.cell? ⟨g, off + 4, none⟩ = some (.int .u8 (κ : Int)) := hcell
 have hg2 : g < w2.heap.size := Nat.lt_of_lt_of_le hg HB.out.size
 have hl3 : N ≤ 140737488355328 := by omega
 have HA3 : Hid (ByAt (w2.drewN nq).drew A3 ((q.drop 5).take (5 + N - 5))) := Lib.hid (D7.out _ _ HL.out HQ2.out)
 go_region_held3 (fun w' => w'.cell? ⟨g, off + 4, none⟩ = some (.int .u8 (κ : Int))) (first | exact hcell' | exact (hb3.cell (p := ⟨g, off + 4, none⟩) hg2).trans hcell' | go_keep)
  ((go_at_call 74; (refine (clone_any A3 _ N C3 L3 hl3 _ HA3).mono ?_); rintro e w3 ⟨A', cap', rfl, hO, hb3⟩))
 all_goals
  go_wp2
  refine bodyPost_ret (results_tmp4 rfl _ _ _) rfl ?_
  have e5 : (q.drop 5).take (5 + N - 5) = Pg.bodyAt l k := by rw [hb.out, show 5 + N - 5 = N by omega]
  rw [e5] at hO
  refine ⟨A', cap', ?_, hO.byAt, hO.caps.1, hO.caps.2, ?_⟩
  ·have s1 : IntKind.i64.wrap ((k : Int) + (5 + (N : Int))) = (k : Int) + (5 + (N : Int)) := by rw [IntKind.wrap_i64]; omega
   have s2 : IntKind.i64.wrap ((k : Int) + (5 + (N : Int)) + 4) = (k : Int) + (5 + (N : Int)) + 4 := by rw [IntKind.wrap_i64]; omega
   exact tup4_eq (by rw [HK.out]) (by rw [hb.out, List.length_take, List.length_drop]) (by rw [hE.out, s1, s2]; omega) (by rw [he.out]; rfl)
  ·exact (below_drewN HB.out nq).drew.trans (hb3.mono HB.out.size)
theorem read_any (a : Option Addr) (l : List Nat) (len cap : Nat) (i : Int) (hlen : Hid (len = l.length)) (hc : len ≤ cap) (hl : cap ≤ maxLen) (w : World) (HA : Hid (ByAt w a l)) (HG : Hid (HalvesAt w)) :
  Calls Tryz.prog 89 #[.slice a len cap, .int .i64 i] w (RetQ w l i) := by
 have hlm : len ≤ maxLen := by omega
 by_cases hi : i < 0 ∨ (len : Int) < i
 ·exact read_arg a l len cap i hlen hlm hi w
 ·obtain ⟨k, rfl⟩ : ∃ k : Nat, i = (k : Int) := ⟨i.toNat, by omega⟩
  have hk : k ≤ len := by omega
  obtain ⟨A, n, C, q, hR⟩ := rest_of a l len cap k hlen hk hc hl w HA
  have R := Lib.hid hR
  by_cases hn : n < 9
  ·exact read_short a l len cap k hk A n C q w R hn hlm
  ·have hql := hR.len.out
   have hkn : k + n = len := by
    have := congrArg List.length hR.drop
    rw [List.length_drop] at this
    have h2 := hlen.out
    omega
   have hqb := hR.byAt.out.lt
   have hz : Pg.sz q < 4294967296 := by
    have h := Pg.val_lt (q.take 4) (fun x hx => hqb x (List.mem_of_mem_take hx))
    rw [List.length_take, Nat.min_eq_left (by omega)] at h
    exact h
   by_cases hs : 1048576 < Pg.sz q ∨ n < Pg.sz q + 9
   ·exact read_long a l len cap k hk A n C q w R hn hlm hs hz
   ·by_cases hv : Pg.val ((q.drop (5 + Pg.sz q)).take 4) = Pg.sum (q.take (5 + Pg.sz q))
    ·exact read_ok a l len cap k hk A n C q w R hlm HG (Pg.sz q) _ (Lib.hid rfl) (by omega) (by omega) (Lib.hid hkn) (Lib.hid rfl) (Lib.hid hv.symm)
    ·exact read_sum a l len cap k hk A n C q w R hlm HG (Pg.sz q) _ _ (Lib.hid rfl) (by omega) (by omega) (Lib.hid rfl) (Lib.hid rfl) (by rw [bne_iff_ne]; omega)
end Go.Proofs.YtjldamkmdkaiiaaGreatDoor
