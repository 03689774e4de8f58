/-
  Several texts, one behind the other: ImplRev, ImplPlaceOf, ImplFlip.
-/
import Derived.Test.YtnkacfgbkfkhdaaGreatY6
import Derived.Test.YtnkacfgbkfkhdaaGreatY3
import Derived.Test.YtnkacfgbkfkhdaaGreatY16
import Derived.Test.YtnkacfgbkfkhdaaGreatY18
import Derived.Test.YtnkacfgbkfkhdaaGreatY13
namespace Go.Proofs.YtnkacfgbkfkhdaaGreat
open Go.RowKit
set_option linter.unusedVariables false
set_option linter.unusedSimpArgs false
set_option maxHeartbeats 1000000 in
theorem rev_none {l : List Int} {a : Option Addr} {c : Nat} {w : World} (hl : l.length = 0 ∨ l.length = 1) :
    Calls Tryz.prog 52 #[.slice a l.length c] w fun r w' => (∃ v, r = .returned v) ∧ w' = w := by
  rcases hl with hl | hl
  all_goals
    rw [hl]
    go_enter Tryz.func52, Tryz.ntmps52
    go_wp2
    refine wp_loop_rounds 1 ?_
    rw [rounds_succ]
    go_wp2
    go_end0
    exact ⟨⟨_, rfl⟩, rfl⟩
set_option maxHeartbeats 1000000 in
theorem rev_two {B C g off c : Nat} {x y z : Int} {w : World} (h : Piece B C w (.slice (some ⟨g, off, none⟩) 2 c) [x, y]) :
    Calls Tryz.prog 52 #[.slice (some ⟨g, off, none⟩) 2 c] w fun r w' => (∃ v, r = .returned v) ∧ w' = (w.drew.setCell ⟨g, off, none⟩ (.int .i64 y)).setCell ⟨g, off + 1, none⟩ (.int .i64 x) := by
  obtain ⟨t0, t1, _, _, _⟩ := h.cellAt (k := 0) (by simp)
  obtain ⟨u0, u1, _, _, _⟩ := h.cellAt (k := 1) (by simp)
  rw [Nat.add_zero] at t0 t1
  have t0 : w.cell? ⟨g, off, none⟩ = some (.int .i64 x) := t0
  have u0 : w.cell? ⟨g, off + 1, none⟩ = some (.int .i64 y) := u0
  clear h
  go_enter Tryz.func52, Tryz.ntmps52
  go_wp2
  refine wp_loop_rounds 2 ?_
  rw [rounds_succ]
  go_wp2
  go_region
  go_wp2
  rw [rounds_succ]
  go_wp2
  go_end0
  exact ⟨⟨_, rfl⟩, rfl⟩
set_option maxHeartbeats 1000000 in
theorem rev_three {B C g off c : Nat} {x y z : Int} {w : World} (h : Piece B C w (.slice (some ⟨g, off, none⟩) 3 c) [x, z, y]) :
    Calls Tryz.prog 52 #[.slice (some ⟨g, off, none⟩) 3 c] w fun r w' => (∃ v, r = .returned v) ∧ w' = (w.drew.setCell ⟨g, off, none⟩ (.int .i64 y)).setCell ⟨g, off + 2, none⟩ (.int .i64 x) := by
  obtain ⟨t0, t1, _, _, _⟩ := h.cellAt (k := 0) (by simp)
  obtain ⟨u0, u1, _, _, _⟩ := h.cellAt (k := 2) (by simp)
  rw [Nat.add_zero] at t0 t1
  have t0 : w.cell? ⟨g, off, none⟩ = some (.int .i64 x) := t0
  have u0 : w.cell? ⟨g, off + 2, none⟩ = some (.int .i64 y) := u0
  clear h
  go_enter Tryz.func52, Tryz.ntmps52
  go_wp2
  refine wp_loop_rounds 2 ?_
  rw [rounds_succ]
  go_wp2
  go_region
  go_wp2
  rw [rounds_succ]
  go_wp2
  go_end0
  exact ⟨⟨_, rfl⟩, rfl⟩
/-- slices.Reverse, on a list of one's own of up to three numbers. -/
theorem reverse_impl {B C g off c : Nat} {l : List Int} {w : World} (h : Piece B C w (.slice (some ⟨g, off, none⟩) l.length c) l) (hl : l.length ≤ 3) (hg : l ≠ [] → B ≤ g ∧ g < C) :
    Calls Tryz.prog 52 #[.slice (some ⟨g, off, none⟩) l.length c] w fun r w' => (∃ v, r = .returned v) ∧ Piece B C w' (.slice (some ⟨g, off, none⟩) l.length c) l.reverse ∧ (w' = w ∨ l ≠ [] ∧ ∃ k y x, w' = (w.drew.setCell ⟨g, off, none⟩ y).setCell ⟨g, off + k, none⟩ x) := by
  match l, hl, h with
  | [], _, h =>
    refine (rev_none (l := []) (.inl rfl)).mono ?_
    rintro r w' ⟨hr, rfl⟩
    exact ⟨hr, h, .inl rfl⟩
  | [x], _, h =>
    refine (rev_none (l := [x]) (.inr rfl)).mono ?_
    rintro r w' ⟨hr, rfl⟩
    exact ⟨hr, h, .inl rfl⟩
  | [x, y], _, h =>
    refine (rev_two (z := 0) h).mono ?_
    rintro r w' ⟨hr, rfl⟩
    refine ⟨hr, ?_, .inr ⟨by simp, 1, _, _, rfl⟩⟩
    have h1 : Piece B C w.drew (.slice (some ⟨g, off, none⟩) 2 c) [x, y] := h.keep (Below.refl w.heap.size w).drew
    have h2 := Piece.set (l := [x, y]) h1 (k := 0) (by simp) y
    have h3 := Piece.set (l := [y, y]) h2 (k := 1) (by simp) x
    exact h3
  | [x, z, y], _, h =>
    refine (rev_three h).mono ?_
    rintro r w' ⟨hr, rfl⟩
    refine ⟨hr, ?_, .inr ⟨by simp, 2, _, _, rfl⟩⟩
    have h1 : Piece B C w.drew (.slice (some ⟨g, off, none⟩) 3 c) [x, z, y] := h.keep (Below.refl w.heap.size w).drew
    have h2 := Piece.set (l := [x, z, y]) h1 (k := 0) (by simp) y
    have h3 := Piece.set (l := [y, z, y]) h2 (k := 2) (by simp) x
    exact h3
  | _ :: _ :: _ :: _ :: _, hl, _ => simp at hl
end Go.Proofs.YtnkacfgbkfkhdaaGreat
namespace Go.Proofs.YtnkacfgbkfkhdaaGreat
open Go.RowKit
set_option linter.unusedVariables false
theorem placeV_hit {s i : List Int} {P : Int} (hs : 0 ≤ sizeV s) (h0 : 0 ≤ P) (h1 : P < sizeV s) (he : idx s P = i) : placeV s i = P := by
  have q := place_of_index hs h0 (by omega)
  rw [indexV_in hs h0 (by omega), he] at q
  exact q.2
theorem placeV_miss {s i : List Int} {P : Int} (hs : 0 ≤ sizeV s) (hl : i.length = s.length) (hP : inOk (s.zip i) = true → P = hor (s.zip i)) (h : P < 0 ∨ sizeV s ≤ P ∨ idx s P ≠ i) : placeV s i = -1 := by
  by_cases hin : inOk (s.zip i) = true
  · exfalso
    have e := hP hin
    have hv : placeV s i = P := by unfold placeV; rw [if_neg (by omega), if_pos hin, e]
    have b := hor_lt _ hin
    rw [List.map_fst_zip (by omega), ← (sizeV_ok hs).2.2.2, ← e] at b
    have q := index_of_place (s := s) (m := i) (by omega)
    rw [hv, indexV_in hs (by omega) (by omega)] at q
    rcases h with h | h | h
    · omega
    · omega
    · exact h q
  · unfold placeV
    rw [if_neg (by omega), if_neg hin]
theorem wrap_in {a : Int} (h0 : 0 ≤ a) (h1 : a ≤ 27000000) : wrap64 a = a := by unfold wrap64; omega
theorem reck1_in {x i : Int} (x1 : x ≤ 300) (h : inOk ([x].zip [i]) = true) : wrap64 i = hor ([x].zip [i]) := by
  simp [inOk] at h
  rw [wrap_in (by omega) (by omega)]
  simp [hor]
theorem reck2_in {x y i j : Int} (x1 : x ≤ 300) (y1 : y ≤ 300) (h : inOk ([x, y].zip [i, j]) = true) : wrap64 (wrap64 (wrap64 i * y) + j) = hor ([x, y].zip [i, j]) := by
  simp [inOk] at h
  have m0 : 0 ≤ i * y := Int.mul_nonneg (by omega) (by omega)
  have m1 : i * y ≤ 300 * 300 := Int.mul_le_mul (by omega) (by omega) (by omega) (by omega)
  rw [wrap_in (a := i) (by omega) (by omega), wrap_in (a := i * y) (by omega) (by omega), wrap_in (by omega) (by omega)]
  simp [hor]
theorem reck3_in {x y z i j k : Int} (x1 : x ≤ 300) (y1 : y ≤ 300) (z1 : z ≤ 300) (h : inOk ([x, y, z].zip [i, j, k]) = true) : wrap64 (wrap64 (wrap64 (wrap64 (wrap64 i * y) + j) * z) + k) = hor ([x, y, z].zip [i, j, k]) := by
  have h' : inOk ([x, y].zip [i, j]) = true := by simp [inOk] at h ⊢; omega
  rw [reck2_in x1 y1 h']
  have b := hor_lt _ h'
  simp [inOk] at h
  have m1 : x * y ≤ 300 * 300 := Int.mul_le_mul (by omega) (by omega) (by omega) (by omega)
  have b2 : hor ([x, y].zip [i, j]) + 1 ≤ x * y := by simpa [prodV] using b.2
  generalize hh : hor ([x, y].zip [i, j]) = H at b b2
  have n0 : 0 ≤ H * z := Int.mul_nonneg b.1 (by omega)
  have n1 : H * z ≤ 90000 * 300 := Int.mul_le_mul (by omega) (by omega) (by omega) (by omega)
  rw [wrap_in n0 (by omega)]
  have e : hor ([x, y, z].zip [i, j, k]) = H * z + k := by rw [← hh]; simp [hor]
  have b3 := (hor_lt ([x, y, z].zip [i, j, k]) (by simp [inOk]; omega)).2
  have m2 : x * y * z ≤ 90000 * 300 := Int.mul_le_mul (by omega) (by omega) (by omega) (by omega)
  have b4 : hor ([x, y, z].zip [i, j, k]) + 1 ≤ x * y * z := by simpa [prodV] using b3
  rw [e] at b4 ⊢
  exact wrap_in (by omega) (by omega)
/-- PlaceOf, whatever lists it is given. -/
theorem place_impl {s i : List Int} {a b : Option Addr} {w : World} (c d : Nat) (h1 : Ints w a s) (h2 : Ints w b i) :
    Calls Tryz.prog 54 #[.slice a s.length c, .slice b i.length d] w fun e w' => e = .returned (.int .i64 (placeV s i)) ∧ Below w.heap.size w w' := by
  by_cases hb : sizeV s < 0 ∨ i.length ≠ s.length
  · have e : placeV s i = -1 := by unfold placeV; rw [if_pos hb]
    rw [e]
    exact place_bad_impl c d h1 hb
  · have hs : 0 ≤ sizeV s := by omega
    have hl : i.length = s.length := by omega
    obtain ⟨k1, k2, k3, k4⟩ := sizeV_ok hs
    rcases len3 k1 with rfl | ⟨x, rfl⟩ | ⟨x, y, rfl⟩ | ⟨x, y, z, rfl⟩
    · obtain rfl : i = [] := List.eq_nil_of_length_eq_zero hl
      have e : placeV [] [] = 0 := by simp [placeV, sizeV, prodV, inOk, hor]
      rw [e]
      exact place_0_hit 0 a b c d w h1 h2 rfl (by omega) (by omega) rfl
    · rcases len3 (by omega : i.length ≤ 3) with rfl | ⟨i, rfl⟩ | ⟨i, j, rfl⟩ | ⟨i, j, k, rfl⟩
      · simp at hl
      · simp only [List.all_cons, List.all_nil, Bool.and_true] at k2
        have dx := dimOk_bd k2
        rw [prod1] at k3 k4
        have hP := reck1_in dx.2 (i := i)
        generalize hPe : wrap64 i = P at hP
        by_cases q1 : P < 0
        · rw [placeV_miss hs hl hP (.inl q1)]
          exact place_1_neg x i P a b c d w h1 h2 hPe dx.1 dx.2 q1
        by_cases q2 : x ≤ P
        · rw [placeV_miss hs hl hP (.inr (.inl (by omega)))]
          exact place_1_much x i P a b c d w h1 h2 hPe dx.1 dx.2 (by omega) q2
        have px : 0 < x := by omega
        by_cases q3 : idx [x] P = [i]
        · rw [placeV_hit hs (by omega) (by omega) q3]
          simp only [idx, List.cons.injEq, and_true] at q3
          exact place_1_hit x i i P a b c d w h1 h2 hPe px dx.2 (by omega) (by omega) q3 (by simp)
        · rw [placeV_miss hs hl hP (.inr (.inr q3))]
          simp only [idx, List.cons.injEq, and_true] at q3
          exact place_1_miss x i _ P a b c d w h1 h2 hPe px dx.2 (by omega) (by omega) rfl (by simp; exact q3)
      · simp at hl
      · simp at hl
    · rcases len3 (by omega : i.length ≤ 3) with rfl | ⟨i, rfl⟩ | ⟨i, j, rfl⟩ | ⟨i, j, k, rfl⟩
      · simp at hl
      · simp at hl
      · simp only [List.all_cons, List.all_nil, Bool.and_true, Bool.and_eq_true] at k2
        have dx := dimOk_bd k2.1
        have dy := dimOk_bd k2.2
        rw [prod2] at k3 k4
        have hP := reck2_in dx.2 dy.2 (i := i) (j := j)
        generalize hPe : wrap64 (wrap64 (wrap64 i * y) + j) = P at hP
        by_cases q1 : P < 0
        · rw [placeV_miss hs hl hP (.inl q1)]
          exact place_2_neg x y i j P a b c d w h1 h2 hPe dx.1 dx.2 dy.1 dy.2 k3 q1
        by_cases q2 : x * y ≤ P
        · rw [placeV_miss hs hl hP (.inr (.inl (by omega)))]
          exact place_2_much x y i j P a b c d w h1 h2 hPe dx.1 dx.2 dy.1 dy.2 k3 (by omega) q2
        have q := pos_of_mul dx.1 dy.1 (by omega)
        obtain ⟨px, py⟩ := q
        by_cases q3 : idx [x, y] P = [i, j]
        · rw [placeV_hit hs (by omega) (by omega) q3]
          simp only [idx, List.cons.injEq, and_true] at q3
          exact place_2_hit x y i j i j P a b c d w h1 h2 hPe px dx.2 py dy.2 k3 (by omega) (by omega) q3.1 q3.2 (by simp)
        · rw [placeV_miss hs hl hP (.inr (.inr q3))]
          simp only [idx, List.cons.injEq, and_true] at q3
          exact place_2_miss x y i j _ _ P a b c d w h1 h2 hPe px dx.2 py dy.2 k3 (by omega) (by omega) rfl rfl (by simp at q3 ⊢; exact q3)
      · simp at hl
    · rcases len3 (by omega : i.length ≤ 3) with rfl | ⟨i, rfl⟩ | ⟨i, j, rfl⟩ | ⟨i, j, k, rfl⟩
      · simp at hl
      · simp at hl
      · simp at hl
      · simp only [List.all_cons, List.all_nil, Bool.and_true, Bool.and_eq_true] at k2
        have dx := dimOk_bd k2.1
        have dy := dimOk_bd k2.2.1
        have dz := dimOk_bd k2.2.2
        rw [prod3] at k3 k4
        have hP := reck3_in dx.2 dy.2 dz.2 (i := i) (j := j) (k := k)
        generalize hPe : wrap64 (wrap64 (wrap64 (wrap64 (wrap64 i * y) + j) * z) + k) = P at hP
        by_cases q1 : P < 0
        · rw [placeV_miss hs hl hP (.inl q1)]
          exact place_3_neg x y z i j k P a b c d w h1 h2 hPe dx.1 dx.2 dy.1 dy.2 dz.1 dz.2 k3 q1
        by_cases q2 : x * y * z ≤ P
        · rw [placeV_miss hs hl hP (.inr (.inl (by omega)))]
          exact place_3_much x y z i j k P a b c d w h1 h2 hPe dx.1 dx.2 dy.1 dy.2 dz.1 dz.2 k3 (by omega) q2
        have q := pos_of_mul (Int.mul_nonneg dx.1 dy.1) dz.1 (by omega)
        have q' := pos_of_mul dx.1 dy.1 q.1
        obtain ⟨px, py⟩ := q'
        have pz := q.2
        by_cases q3 : idx [x, y, z] P = [i, j, k]
        · rw [placeV_hit hs (by omega) (by omega) q3]
          simp only [idx, List.cons.injEq, and_true] at q3
          exact place_3_hit x y z i j k i j k P a b c d w h1 h2 hPe px dx.2 py dy.2 pz dz.2 k3 (by omega) (by omega) q3.1 q3.2.1 q3.2.2 (by simp)
        · rw [placeV_miss hs hl hP (.inr (.inr q3))]
          simp only [idx, List.cons.injEq, and_true] at q3
          exact place_3_miss x y z i j k _ _ _ P a b c d w h1 h2 hPe px dx.2 py dy.2 pz dz.2 k3 (by omega) (by omega) rfl rfl rfl (by simp at q3 ⊢; exact q3)
end Go.Proofs.YtnkacfgbkfkhdaaGreat
namespace Go.Proofs.YtnkacfgbkfkhdaaGreat
open Go.RowKit
set_option linter.unusedVariables false
set_option linter.unusedSimpArgs false
theorem piece_setN6 {B C g c k n : Nat} {w : World} {l : List Int} (h : Piece B C w (.slice (some ⟨g, 0, none⟩) n c) l) (hl : l.length = n) (hk : k < n) (x : Int) : Piece B C (w.setCell ⟨g, k, none⟩ (.int .i64 x)) (.slice (some ⟨g, 0, none⟩) n c) (l.set k x) := by
  subst hl
  have := h.set hk x
  simpa using this
/-- slices.Reverse on a list of one's own. -/
theorem reverse_new {B c : Nat} {a : Option Addr} {l : List Int} {w : World} (h : NewInts B w (.slice a l.length c) l) (hl : l.length ≤ 3) (hB : B ≤ w.heap.size) :
    Calls Tryz.prog 52 #[.slice a l.length c] w fun r w' => (∃ v, r = .returned v) ∧ Piece B w'.heap.size w' (.slice a l.length c) l.reverse ∧ Below B w w' := by
  by_cases h0 : l = []
  · subst h0
    refine (rev_none (l := []) (.inl rfl)).mono ?_
    rintro r w' ⟨hr, rfl⟩
    exact ⟨hr, h.piece, Below.refl _ _⟩
  · have hp := h.piece
    obtain ⟨_, hn⟩ := h
    rcases hn with ⟨_, h1⟩ | ⟨g, cap, cur, e, hg, hh, _⟩
    · exact absurd (List.length_eq_zero_iff.1 h1) h0
    · cases e
      have hlt := lt_of_heapA hh
      refine (reverse_impl hp hl (fun _ => ⟨hg, hlt⟩)).mono ?_
      rintro r w' ⟨hr, q1, q2⟩
      rcases q2 with rfl | ⟨_, k, y, x, rfl⟩
      · exact ⟨hr, q1, Below.refl _ _⟩
      · refine ⟨hr, q1.mono (Nat.le_refl _) (by simp [size_setCell]), below_setCell (below_setCell ((Below.refl B w).drew) hg _ _) hg _ _⟩
set_option maxRecDepth 20000 in
set_option maxHeartbeats 4000000 in
/-- Flip. -/
theorem flip_impl {s d : List Int} {w : World} {v : Value} (h : ArrI w v s d) (hs : s.length ≤ 1048576) (hd : d.length ≤ 1048576) :
    Calls Tryz.prog 23 #[v] w fun r w' => ∃ v', r = .returned (.tuple #[v', .int .i64 (flipR s d).1]) ∧ Arr w.heap.size w'.heap.size w' v' (flipR s d).2.1 (flipR s d).2.2 ∧ Below w.heap.size w w' := by
  have H : Hid (ArrI w v s d) := h
  have HOK : Hid (∀ W, Below w.heap.size w W → Calls Tryz.prog 11 #[v] W fun r w' => r = .returned (.bool (arrOk s d)) ∧ Below W.heap.size W w') := fun W hb => arrOk_impl (h.keep hb) hd
  obtain ⟨a, c, b, f, rfl, h1, h2, g1, g2⟩ := h
  have H1 : Hid (Ints w a s) := h1
  have H2 : Hid (Ints w b d) := h2
  obtain ⟨x, hx⟩ : ∃ x, x = (flipR s d).1 := ⟨_, rfl⟩
  obtain ⟨S, hS⟩ : ∃ S, S = (flipR s d).2.1 := ⟨_, rfl⟩
  obtain ⟨D, hD⟩ : ∃ D, D = (flipR s d).2.2 := ⟨_, rfl⟩
  rw [← hx, ← hS, ← hD]
  have E1 : Hid (arrOk s d = false → x = 1 ∧ S = [] ∧ D = []) := fun ho => by
    rw [hx, hS, hD]; unfold flipR okC; rw [if_neg (by rw [ho]; simp)]; exact ⟨rfl, rfl, rfl⟩
  have E2 : Hid (arrOk s d = true → x = 0 ∧ S = s.reverse ∧ D = (List.range d.length).map (fun (i : Nat) => d.getD (placeV s (indexV s.reverse (i : Int)).reverse).toNat 0)) := fun ho => by
    rw [hx, hS, hD]; unfold flipR okC; rw [if_pos ho]; exact ⟨rfl, rfl, rfl⟩
  clear hx hS hD h1 h2
  go_enter Tryz.func23, Tryz.ntmps23
  go_wp2_with fail
  refine (HOK.out _ (bAlloc (bAlloc (Below.refl _ _) _) _)).mono ?_
  rintro r w1 ⟨rfl, hb⟩
  have HB1 : Hid (Below w.heap.size w w1) := bTrans (bAlloc (bAlloc (Below.refl _ _) _) _) hb
  have X1 : Hid (Box w1 w.heap.size (.slice a s.length c) (.slice b d.length f) 26) := (Box.keep (heap_alloc2_old w _ _) hb)
  have R1 : Hid (Box w1 (w.heap.size + 1) (.slice none 0 0) (.slice none 0 0) 26) := (box_new2 w _ _ _ _).keep hb
  clear hb HOK
  by_cases ho : arrOk s d = true
  · obtain ⟨rfl, eS, eD⟩ := E2.out ho
    have ES : Hid (S = s.reverse ∧ D = (List.range d.length).map (fun (i : Nat) => d.getD (placeV s (indexV s.reverse (i : Int)).reverse).toNat 0)) := ⟨eS, eD⟩
    have HPL : Hid (∀ i : Nat, i < d.length → 0 ≤ placeV s (indexV s.reverse (i : Int)).reverse ∧ placeV s (indexV s.reverse (i : Int)).reverse < (d.length : Int)) := fun i hi => ⟨(flip_place ho i hi).1, (flip_place ho i hi).2.1⟩
    have hs3 : s.length ≤ 3 := (sizeV_ok (arrOk_shape ho)).1
    have hd3 : d.length ≤ 300 := arrOk_len ho
    obtain ⟨m, hm⟩ : ∃ m, m = d.length := ⟨_, rfl⟩
    have hm3 : m ≤ 300 := by omega
    have HM : Hid (m = d.length) := hm
    rw [ho]
    clear E1 E2 eS eD ho
    have q0 := X1.out.c0
    have q1 := X1.out.c1
    go_wp2_with fail
    refine (copied_impl c (H1.out.keep HB1.out) hs).mono ?_
    rintro r W2 ⟨rfl, rfl⟩
    have N2 : Hid (NewInts w1.heap.size (w1.alloc (.cells (vals s) 3)) (.slice (some ⟨w1.heap.size, 0, none⟩) s.length s.length) s) := newInts_alloc w1 s (Nat.le_refl _) (by omega)
    go_wp2_with fail
    refine (reverse_new N2.out hs3 (by simp)).mono ?_
    rintro r w3 ⟨⟨vr, rfl⟩, hp, hb⟩
    have P3 : Hid (Piece w1.heap.size w3.heap.size w3 (.slice (some ⟨w1.heap.size, 0, none⟩) s.length s.length) s.reverse) := hp
    have B3 : Hid (Below w1.heap.size w1 w3) := (bAlloc (Below.refl _ _) _).trans hb
    have X3 : Hid (Box w3 w.heap.size (.slice a s.length c) (.slice b d.length f) 26) := X1.out.keep B3.out
    have R3 : Hid (Box w3 (w.heap.size + 1) (.slice none 0 0) (.slice none 0 0) 26) := R1.out.keep B3.out
    have S3 : Hid (w1.heap.size ≤ w3.heap.size) := B3.out.size
    clear hp hb N2 q0 q1
    have q0 := X3.out.c0
    have q1 := X3.out.c1
    have hmk : ∀ w, (Instr.makeSlice 24 (.int .i64 (d.length : Int)) (.int .i64 (d.length : Int))).run Tryz.prog w = .ok (.slice (some ⟨w.heap.size, 0, none⟩) m m) (w.alloc (.cells (vals (List.replicate m 0)) 3)) := fun w => by rw [hm]; exact make_ints d.length (by omega) w
    clear hm
    go_wp2
    generalize hW : w3.alloc (.cells (vals (List.replicate m 0)) 3) = W
    have P0 : Hid (Piece w3.heap.size (w3.heap.size + 1) W (.slice (some ⟨w3.heap.size, 0, none⟩) m m) (List.replicate m 0)) := by
      rw [← hW]
      have := OwnInts.piece (ownInts_new w3 (List.replicate m 0)) (B := w3.heap.size) (C := w3.heap.size + 1) (Nat.le_refl _) (Nat.lt_succ_self _) m
      show Piece _ _ _ _ _
      simpa using this
    have B0 : Hid (Below w3.heap.size w3 W) := by rw [← hW]; exact bAlloc (Below.refl _ _) _
    have S0 : Hid (w3.heap.size + 1 ≤ W.heap.size) := by rw [← hW]; show _ ≤ _; simp
    clear hW hmk q0 q1
    obtain ⟨φ, hφ⟩ : ∃ φ : Nat → Int, φ = fun (i : Nat) => d.getD (placeV s (indexV s.reverse (i : Int)).reverse).toNat 0 := ⟨_, rfl⟩
    have HPH : Hid (∀ k, φ k = d.getD (placeV s (indexV s.reverse (k : Int)).reverse).toNat 0) := fun k => by rw [hφ]
    rw [← hφ] at ES
    clear hφ
    go_loopw [23] (fun i w' => ∃ (k : Nat) (l : List Int), k ≤ m ∧ i = .int .i64 (k : Int) ∧ l = setTo φ (List.replicate m 0) k ∧ l.length = m ∧ Piece w3.heap.size (w3.heap.size + 1) w' (.slice (some ⟨w3.heap.size, 0, none⟩) m m) l ∧ Below w3.heap.size w3 w' ∧ w3.heap.size + 1 ≤ w'.heap.size) (fun i _ => m - (intOf i).toNat)
    case atStart => exact ⟨0, _, by omega, rfl, by rw [setTo_zero], by simp, P0.out, B0.out, S0.out⟩
    case round =>
      obtain ⟨k, l, hk, rfl, hl, hll, hP, hb, hs'⟩ := hrel
      have HL : Hid (l = setTo φ (List.replicate m 0) k) := hl
      have HLL : Hid (l.length = m) := hll
      have HP : Hid (Piece w3.heap.size (w3.heap.size + 1) wr (.slice (some ⟨w3.heap.size, 0, none⟩) m m) l) := hP
      have HB : Hid (Below w3.heap.size w3 wr ∧ w3.heap.size + 1 ≤ wr.heap.size) := ⟨hb, hs'⟩
      have BW : Hid (Below w.heap.size w wr) := bTrans (bTrans HB1.out B3.out) hb
      clear hl hll hP hb hs' P0 B0 S0
      by_cases hlt : (k : Int) < (m : Int)
      · obtain ⟨e1, e2⟩ := HPL.out k (by have := HM.out; omega)
        have hix := indexV_len s.reverse (k : Int)
        have hf := HPH.out k
        obtain ⟨ix, hxx⟩ : ∃ ix, ix = indexV s.reverse (k : Int) := ⟨_, rfl⟩
        rw [← hxx] at e1 e2 hix hf
        obtain ⟨PN, hPN⟩ : ∃ PN : Nat, placeV s ix.reverse = (PN : Int) := ⟨(placeV s ix.reverse).toNat, by omega⟩
        rw [hPN] at e1 e2 hf
        rw [Int.toNat_natCast] at hf
        obtain ⟨b1, o1, rfl, hb1, c1⟩ := H2.out.at (k := PN) (by omega)
        rw [← hf] at c1
        have CC : Hid (∀ W, Below w.heap.size w W → W.cell? ⟨b1, o1 + PN, none⟩ = some (.int .i64 (φ k))) := fun W h => (h.cell (p := ⟨b1, o1 + PN, none⟩) hb1).trans c1
        obtain ⟨_, _, ev, ir⟩ := P3.out.ints
        simp only [Value.slice.injEq] at ev
        obtain ⟨rfl, e8, e9⟩ := ev
        clear e8 e9
        have IR : Hid (Ints wr (some ⟨w1.heap.size, 0, none⟩) s.reverse) := ir.keep HB.out.1
        have HIX : Hid (Calls Tryz.prog 53 #[.slice (some ⟨w1.heap.size, 0, none⟩) s.length s.length, .int .i64 (k : Int)] wr fun e w' => ∃ v, e = .returned v ∧ NewInts wr.heap.size w' v ix ∧ Below wr.heap.size wr w') := by
          have q := index_impl (k : Int) s.length IR.out
          rw [List.length_reverse, ← hxx] at q
          exact q
        have HPO : Hid (∀ W a' c', Ints W a s → Ints W a' ix.reverse → Calls Tryz.prog 54 #[.slice a s.length c, .slice a' ix.length c'] W fun e w' => e = .returned (.int .i64 (PN : Int)) ∧ Below W.heap.size W w') := fun W a' c' i1 i2 => by
          have q := place_impl c c' i1 i2
          rw [List.length_reverse, hPN] at q
          exact q
        have E3 : Hid (l.set k (φ k) = setTo φ (List.replicate m 0) (k + 1)) := by show _ = _; rw [HL.out]; exact setTo_set φ _ (by simp; omega)
        have hz : (PN : Int) < (d.length : Int) := e2
        generalize φ k = x at *
        clear hxx hPN hf c1 ir hk
        go_wp2_with fail
        refine (HIX.out).mono ?_
        rintro r w5 ⟨v5, rfl, hN, hb⟩
        obtain ⟨ia, ic, ev, _⟩ := hN.ints
        subst ev
        have N5 : Hid (NewInts wr.heap.size w5 (.slice ia ix.length ic) ix) := hN
        have B5 : Hid (Below wr.heap.size wr w5) := hb
        clear hN hb HIX
        go_wp2_with fail
        refine (reverse_new N5.out hix B5.out.size).mono ?_
        rintro r w6 ⟨⟨vr', rfl⟩, hp, hb⟩
        obtain ⟨_, _, ev, i6⟩ := hp.ints
        have I6 : Hid (Ints w6 ia ix.reverse) := by simp only [Value.slice.injEq] at ev; obtain ⟨rfl, e8, e9⟩ := ev; exact i6
        have B6 : Hid (Below wr.heap.size wr w6) := B5.out.trans hb
        have X6 : Hid (Box w6 w.heap.size (.slice a s.length c) (.slice (some ⟨b1, o1, none⟩) d.length f) 26) := (X3.out.keep HB.out.1).keep B6.out
        have P6 : Hid (Piece w3.heap.size (w3.heap.size + 1) w6 (.slice (some ⟨w3.heap.size, 0, none⟩) m m) l) := HP.out.keep B6.out
        have C6 := CC.out _ (bTrans BW.out B6.out)
        clear hp hb i6 ev N5
        have q0 := X6.out.c0
        have q1 := X6.out.c1
        go_wp2_with fail
        go_region_held3 (fun w' => w'.cell? ⟨w.heap.size, 0, none⟩ = some (.slice a s.length c) ∧ w'.cell? ⟨w.heap.size, 1, none⟩ = some (.slice (some ⟨b1, o1, none⟩) d.length f) ∧ w'.cell? ⟨b1, o1 + PN, none⟩ = some (.int .i64 x))
          (first | with_reducible exact ⟨z0, z1, z2⟩ | with_reducible exact ⟨y0, y1, y2⟩ | exact ⟨q0, q1, C6⟩)
          ((go_at_call 54; refine (HPO.out _ _ _ (H1.out.keep (bTrans BW.out (bTrans B6.out ((Below.refl w6.heap.size w6).drew)))) (I6.out.keep ((Below.refl w6.heap.size w6).drew))).mono ?_; rintro r w7 ⟨rfl, hb⟩; have B7 : Hid (Below wr.heap.size wr w7) := bTrans B6.out (bTrans ((Below.refl w6.heap.size w6).drew) hb); have y0 := (Box.keep X6.out (bTrans ((Below.refl w6.heap.size w6).drew) hb)).c0; have y1 := (Box.keep X6.out (bTrans ((Below.refl w6.heap.size w6).drew) hb)).c1; have y2 := CC.out _ (bTrans BW.out B7.out); have P7 : Hid (Piece w3.heap.size (w3.heap.size + 1) w7 (.slice (some ⟨w3.heap.size, 0, none⟩) m m) l) := HP.out.keep B7.out; obtain ⟨t1, t2, _, _, _⟩ := P7.out.cellAt (k := k) (by rw [HLL.out]; omega); rw [Nat.zero_add] at t1 t2; generalize l.getD k 0 = zz at t1; have z0 := ((Box.keep X6.out (bTrans ((Below.refl w6.heap.size w6).drew) hb)).win (win_setCell _ w3.heap.size k (.int .i64 x)) (.inl X3.out.lt)).c0; have z1 := ((Box.keep X6.out (bTrans ((Below.refl w6.heap.size w6).drew) hb)).win (win_setCell _ w3.heap.size k (.int .i64 x)) (.inl X3.out.lt)).c1; have z2 : (w7.setCell ⟨w3.heap.size, k, none⟩ (.int .i64 x)).cell? ⟨b1, o1 + PN, none⟩ = some (.int .i64 x) := CC.out _ (below_setCell (bTrans BW.out B7.out) (by have := HB1.out.size; have := S3.out; omega) _ _); clear hb))
        go_wp2
        go_roundw
        case rel => exact ⟨k + 1, _, by omega, by go_num, E3.out, by rw [List.length_set]; exact HLL.out, piece_setN6 P7.out HLL.out (by omega) _, below_setCell (bTrans HB.out.1 B7.out) (Nat.le_refl _) _ _, by rw [size_setCell]; exact Nat.le_trans HB.out.2 B7.out.size⟩
        case measure => simp [intOf]; omega
      · obtain rfl : k = m := by omega
        have ED : Hid (D = l) := by show _ = _; rw [ES.out.2, HL.out, setTo_all _ _ (by simp), HM.out]
        have RR : Hid (Box wr (w.heap.size + 1) (.slice none 0 0) (.slice none 0 0) 26) := R3.out.keep HB.out.1
        have LT : Hid (w.heap.size + 1 < w1.heap.size) := R1.out.lt
        have PS : Hid (Piece w1.heap.size w3.heap.size wr (.slice (some ⟨w1.heap.size, 0, none⟩) s.length s.length) s.reverse) := P3.out.keep HB.out.1
        have y0 := RR.out.c0
        have y1 := RR.out.c1
        have f0 : wr.frozen? ⟨w.heap.size + 1, 0, none⟩ = false := free_at RR.out 0
        have f1 : wr.frozen? ⟨w.heap.size + 1, 1, none⟩ = false := free_at RR.out 1
        have HR : Hid (((wr.setCell ⟨w.heap.size + 1, 0, none⟩ (.slice (some ⟨w1.heap.size, 0, none⟩) s.length s.length)).setCell ⟨w.heap.size + 1, 1, none⟩ (.slice (some ⟨w3.heap.size, 0, none⟩) k k)).heap[w.heap.size + 1]? = some (.cells #[.slice (some ⟨w1.heap.size, 0, none⟩) s.length s.length, .slice (some ⟨w3.heap.size, 0, none⟩) k k] 26 (0, 0))) := arr_stored RR.out
        go_wp2
        refine bodyPost_ret (results_arr_tmp Tryz.results23 _ _ (w.heap.size + 1) _ _ rfl HR.out) rfl ?_
        refine ⟨_, rfl, ?_, below_setCell (below_setCell BW.out (by omega) _ _) (by omega) _ _⟩
        have L1 := LT.out
        have L2 := HB.out.2
        have L3 := S3.out
        rw [ES.out.1, ED.out]
        have p1' := (PS.out.win (win_setCell _ (w.heap.size + 1) 0 (.slice (some ⟨w1.heap.size, 0, none⟩) s.length s.length)) (.inr (by omega))).win (win_setCell _ (w.heap.size + 1) 1 (.slice (some ⟨w3.heap.size, 0, none⟩) k k)) (.inr (by omega))
        have p2' := (HP.out.win (win_setCell _ (w.heap.size + 1) 0 (.slice (some ⟨w1.heap.size, 0, none⟩) s.length s.length)) (.inr (by omega))).win (win_setCell _ (w.heap.size + 1) 1 (.slice (some ⟨w3.heap.size, 0, none⟩) k k)) (.inr (by omega))
        exact ⟨_, _, rfl, p1'.mono (by omega) (by simp only [size_setCell]; omega), p2'.mono (by omega) (by simp only [size_setCell]; omega), p1'.apart p2' (.inl (by omega))⟩
  · have ho' : arrOk s d = false := by simpa using ho
    obtain ⟨rfl, rfl, rfl⟩ := E1.out ho'
    rw [ho']
    clear E1 E2 ho ho'
    have y0 := R1.out.c0
    have y1 := R1.out.c1
    have f0 : w1.frozen? ⟨w.heap.size + 1, 0, none⟩ = false := free_at R1.out 0
    have f1 : w1.frozen? ⟨w.heap.size + 1, 1, none⟩ = false := free_at R1.out 1
    have HR : Hid (((w1.setCell ⟨w.heap.size + 1, 0, none⟩ (.slice none 0 0)).setCell ⟨w.heap.size + 1, 1, none⟩ (.slice none 0 0)).heap[w.heap.size + 1]? = some (.cells #[.slice none 0 0, .slice none 0 0] 26 (0, 0))) := arr_stored R1.out
    go_wp2
    refine bodyPost_ret (results_arr_tmp Tryz.results23 _ _ (w.heap.size + 1) _ _ rfl HR.out) rfl ?_
    exact ⟨_, rfl, arr_zero _ _ _, below_setCell (below_setCell HB1.out (by omega) _ _) (by omega) _ _⟩
end Go.Proofs.YtnkacfgbkfkhdaaGreat
