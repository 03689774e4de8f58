/-
  Several texts, one behind the other: SpecMake3, Cuts2, ImplMake7.
-/
import Derived.Test.YthbppjkafbhdaaaY34
import Derived.Test.YthbppjkafbhdaaaY41
import Derived.Test.YthbppjkafbhdaaaY22
namespace Go.Proofs.Ythbppjkafbhdaaa
open Go.RowKit
set_option linter.unusedVariables false
set_option linter.unusedSimpArgs false
theorem blocks4 (w : World) (A B C D : Obj) : ((((w.alloc A).alloc B).alloc C).alloc D).heap[w.heap.size]? = some A ∧ ((((w.alloc A).alloc B).alloc C).alloc D).heap[w.heap.size + 1]? = some B ∧ ((((w.alloc A).alloc B).alloc C).alloc D).heap[w.heap.size + 1 + 1]? = some C ∧ ((((w.alloc A).alloc B).alloc C).alloc D).heap[w.heap.size + 1 + 1 + 1]? = some D := by
  have q := blocks3 w A B C
  have e4 := heap_alloc_new (((w.alloc A).alloc B).alloc C) D
  simp only [World.size_alloc] at e4
  refine ⟨?_, ?_, ?_, e4⟩
  · rw [heap_alloc_old _ _ (by simp only [World.size_alloc]; omega)]; exact q.1
  · rw [heap_alloc_old _ _ (by simp only [World.size_alloc]; omega)]; exact q.2.1
  · rw [heap_alloc_old _ _ (by simp only [World.size_alloc]; omega)]; exact q.2.2
theorem againD_succ (e : List Int) (k : Nat) : againD e k ++ [if e = [] then 0 else e.getD (k % e.length) 0] = againD e (k + 1) := by
  unfold againD; rw [List.range_succ]; simp
theorem any_take {d : List Int} {k : Nat} (h : (d.take k).any (fun x => decide (x < 0)) = false) (hk : k < d.length) (hx : ¬ d.getD k 0 < 0) : (d.take (k + 1)).any (fun x => decide (x < 0)) = false := by
  rw [take_snoc hk, List.any_append, h]
  simpa using hx
end Go.Proofs.Ythbppjkafbhdaaa
namespace Go.Proofs.Ythbppjkafbhdaaa
open Go.RowKit
set_option linter.unusedVariables false
set_option linter.unusedSimpArgs false
/-- A list of numbers up to one. -/
theorem ints_upto {w : World} {a : Option Addr} {l : List Int} {c M : Nat} (h : Ints w a l) (hc : l.length ≤ c) (hM : M ≤ l.length) :
    ∃ a' c', (∀ W, (Instr.slice 24 (.slice a l.length c) none (some (.int .i64 (M : Int))) none).run Try.prog W = .ok (.slice a' M c') W) ∧ Ints w a' (l.take M) := by
  have hrun : ∀ W, (Instr.slice 24 (.slice a l.length c) none (some (.int .i64 (M : Int))) none).run Try.prog W = .ok (sliced a 0 M c 1) W := by
    intro W
    have hs : (sizeOf 3).run Try.prog W = .ok 1 W := by kernel_rfl
    have he : Try.prog.elem 24 = 3 := by kernel_rfl
    rw [run_slice_h (P := Try.prog) (w := W) 24 a l.length c (by rw [he]; exact Try.underlying24) .i64 (M : Int) (by omega) (by omega), he, hs]
    simp [Result.andThen]
  refine ⟨_, _, hrun, ?_⟩
  by_cases h0 : M = 0
  · subst h0; exact .inl (by simp)
  · obtain ⟨b, o, rfl, _, _⟩ := h.at (k := 0) (by omega)
    have := ints_cut (m := 0) (n := M) h (by omega)
    have e : (if c = 0 then (some ⟨b, o, none⟩ : Option Addr) else (some (⟨b, o, none⟩ : Addr)).map (·.add (0 * 1))) = some ⟨b, o, none⟩ := by
      split
      · rfl
      · simp [Addr.add]
    rw [e]
    simpa using this
/-- A list of numbers from one on. -/
theorem ints_from {w : World} {a : Option Addr} {l : List Int} {c M : Nat} (h : Ints w a l) (hc : l.length ≤ c) (hM : M ≤ l.length) :
    ∃ a' c', (∀ W, (Instr.slice 24 (.slice a l.length c) (some (.int .i64 (M : Int))) none none).run Try.prog W = .ok (.slice a' (l.drop M).length c') W) ∧ Ints w a' (l.drop M) := by
  have hrun : ∀ W, (Instr.slice 24 (.slice a l.length c) (some (.int .i64 (M : Int))) none none).run Try.prog W = .ok (sliced a M l.length c 1) W := by
    intro W
    have hs : (sizeOf 3).run Try.prog W = .ok 1 W := by kernel_rfl
    have he : Try.prog.elem 24 = 3 := by kernel_rfl
    rw [run_slice_l (P := Try.prog) (w := W) 24 a l.length c (by rw [he]; exact Try.underlying24) .i64 (M : Int) (by omega) (by omega), he, hs]
    simp [Result.andThen]
  rw [show (l.drop M).length = l.length - M from by simp]
  refine ⟨_, _, hrun, ?_⟩
  by_cases h0 : l.length - M = 0
  · exact .inl (List.eq_nil_of_length_eq_zero (by simpa using h0))
  · obtain ⟨b, o, rfl, _, _⟩ := h.at (k := 0) (by omega)
    have := ints_cut (m := M) (n := l.length - M) h (by omega)
    rw [if_neg (by omega)]
    have e2 : (l.drop M).take (l.length - M) = l.drop M := List.take_of_length_le (by simp)
    rw [e2] at this
    by_cases hM0 : M = 0 <;> simpa [Addr.add, hM0] using this
/-- Growing by a list: nothing but the list's own block is turned. -/
theorem growG {B : Nat} {w : World} {v : Value} {l m : List Int} {a : Option Addr} (h : NewInts B w v l) (hm : Ints w a m) (hB : B ≤ w.heap.size) (hl : l.length + m.length ≤ 1048576) (c : Nat) :
    ∃ a' c' w', (Builtin.append_ #[24, 24] 24 #[v, .slice a m.length c]).run Try.prog w = .ok (.slice a' (l ++ m).length c') w' ∧ NewInts B w' (.slice a' (l ++ m).length c') (l ++ m) ∧ w.grownBy w' v.ownBlock ∧ ((Value.slice a' (l ++ m).length c').ownBlock = v.ownBlock ∨ (Value.slice a' (l ++ m).length c').ownBlock = some w.heap.size) := by
  obtain ⟨i, hq, z1, z2, z3⟩ : ∃ i, Try.prog.info? 3 = some i ∧ i.zero = some (.int .i64 0) ∧ i.size = 1 ∧ i.bytes = 8 := by
    have hi := info_int
    cases hq : Try.prog.info? 3 with
    | none => rw [hq] at hi; cases hi
    | some i => rw [hq] at hi; simp at hi; exact ⟨i, rfl, hi.1, hi.2.1, hi.2.2⟩
  cases a with
  | none =>
    obtain rfl : m = [] := by
      rcases hm with h | ⟨b, off, e, _⟩
      · exact h
      · cases e
    obtain ⟨base, cap, rfl, hle⟩ : ∃ base cap, v = .slice base l.length cap ∧ l.length ≤ cap := by
      rcases h.2 with ⟨e, h0⟩ | ⟨g, cap, cur, e, _, _, hle, _⟩
      · exact ⟨none, 0, by rw [e, h0], by omega⟩
      · exact ⟨_, cap, e, hle⟩
    refine ⟨base, cap, w, ?_, by simpa using h, ⟨rfl, rfl, rfl, Nat.le_refl _, fun _ _ _ => rfl⟩, .inl (by simp [Value.ownBlock])⟩
    have := run_append_nothing (P := Try.prog) w 24 24 24 3 i Try.underlying24 hq base l.length cap hle (.slice none 0 c) (by rw [z2]; exact Src.ofNil w Try.underlying24 c)
    simpa using this
  | some ad =>
    have hn : ∀ (j : Nat) (u : Value), (m.map (Value.int .i64))[j]? = some u → w.cell? (ad.add j) = some u := by
      rcases hm with rfl | ⟨b, off, e, _, hc⟩
      · intro j u hu; simp at hu
      · cases e; exact ints_news hc
    obtain ⟨v', w', hr, h2, h3, _, h5⟩ := run_append_own_at (P := Try.prog) w B 24 24 3 i (.int .i64 0) 1 8 Try.underlying24 hq z1 z2 z3 rfl (by decide) v l.length (l.map (Value.int .i64)) h ad m.length c (m.map (Value.int .i64)) (by simp) hn (by intro u hu; obtain ⟨x, _, rfl⟩ := List.mem_map.1 hu; rfl) (by unfold maxLen; omega) (by omega) hB
    have h2' : NewInts B w' v' (l ++ m) := by
      show World.ownsRow _ _ _ _ _ _ _
      simpa using h2
    obtain ⟨a', c', rfl, _⟩ := h2'.ints
    exact ⟨a', c', w', hr, h2', h3, h5⟩
theorem sizeV_tail {n0 : Int} {t : List Int} (h : 0 ≤ sizeV (n0 :: t)) (hp : 0 < n0) : 0 ≤ sizeV t ∧ n0 * sizeV t = sizeV (n0 :: t) := by
  have ho : arrOk (n0 :: t) (List.replicate (sizeV (n0 :: t)).toNat 0) = true := by
    unfold arrOk
    have e1 : (List.replicate (sizeV (n0 :: t)).toNat (0 : Int)).all ok = true := by
      rw [List.all_eq_true]
      intro x hx
      obtain rfl := (List.mem_replicate.1 hx).2
      decide
    rw [e1]
    simp
    omega
  obtain ⟨p0, p1, p2⟩ := tail_size ho hp
  refine ⟨p0, ?_⟩
  rw [p1]
  simp
  omega
theorem dim_bd {n0 : Int} {t : List Int} (h : 0 ≤ sizeV (n0 :: t)) : 0 ≤ n0 ∧ n0 ≤ 300 := by
  have := (sizeV_ok h).2.1
  rw [List.all_eq_true] at this
  have := this n0 (by simp)
  simpa [dimOk] using this
/-- What is taken, and what is left out, in numbers. -/
theorem take_nums {t e : List Int} {x : Int} (ho : arrOk t e = true) (hz : 0 ≤ sizeV (takeS x t e)) :
    (haveN x t e : Int) * sizeV ((vecS t e).drop 1) = ((haveN x t e * rowN (vecS t e) : Nat) : Int) ∧
    (((manyV x).toNat : Int) - (haveN x t e : Int)) * sizeV ((vecS t e).drop 1) = ((((manyV x).toNat - haveN x t e) * rowN (vecS t e) : Nat) : Int) ∧
    ((rowsN (vecS t e) : Int) - (haveN x t e : Int)) * sizeV ((vecS t e).drop 1) = (((rowsN (vecS t e) - haveN x t e) * rowN (vecS t e) : Nat) : Int) ∧
    haveN x t e * rowN (vecS t e) ≤ e.length ∧ ((manyV x).toNat - haveN x t e) * rowN (vecS t e) ≤ 300 ∧ (rowsN (vecS t e) - haveN x t e) * rowN (vecS t e) ≤ e.length ∧ (manyV x).toNat ≤ 300 ∧ haveN x t e ≤ (manyV x).toNat ∧ haveN x t e ≤ rowsN (vecS t e) ∧ -1 ≤ sizeV ((vecS t e).drop 1) ∧ sizeV ((vecS t e).drop 1) ≤ 300 := by
  obtain ⟨ov, hv0⟩ := vec_ok ho
  obtain ⟨e1, e2⟩ := rowsN_bd ov
  have eall := rows_all ov hv0
  have hm := many_nat x
  have eta := cons_eta hv0
  have hH : haveN x t e = min (manyV x).toNat (rowsN (vecS t e)) := rfl
  have hR : rowN (vecS t e) = (sizeV ((vecS t e).drop 1)).toNat := rfl
  have sb := sizeV_bd ((vecS t e).drop 1)
  unfold takeS at hz
  have hd := dim_bd hz
  have key : 0 ≤ sizeV ((vecS t e).drop 1) ∨ ((manyV x).toNat = 0 ∧ rowsN (vecS t e) = 0) := by
    by_cases h1 : 0 < manyV x
    · exact .inl (sizeV_tail hz h1).1
    · by_cases h2 : 0 < rowsN (vecS t e)
      · refine .inl ?_
        have hs := arrOk_shape ov
        rw [← eta] at hs
        exact (sizeV_tail hs (by omega)).1
      · exact .inr ⟨by omega, by omega⟩
  have hmz : (manyV x).toNat * rowN (vecS t e) ≤ 300 := by
    by_cases h1 : 0 < manyV x
    · obtain ⟨p0, p1⟩ := sizeV_tail hz h1
      have b := (sizeV_bd (manyV x :: (vecS t e).drop 1)).2
      have : (((manyV x).toNat * rowN (vecS t e) : Nat) : Int) ≤ 300 := by
        rw [Int.natCast_mul, ← hm, hR, Int.toNat_of_nonneg p0, p1]; exact b
      omega
    · have : (manyV x).toNat = 0 := by omega
      rw [this]; simp
  generalize rowsN (vecS t e) = N at *
  generalize haveN x t e = H at *
  generalize (manyV x).toNat = m at *
  have hH1 : H ≤ m := by rw [hH]; exact Nat.min_le_left _ _
  have hH2 : H ≤ N := by rw [hH]; exact Nat.min_le_right _ _
  have q1 : H * rowN (vecS t e) ≤ N * rowN (vecS t e) := Nat.mul_le_mul_right _ hH2
  have q2 : (m - H) * rowN (vecS t e) ≤ m * rowN (vecS t e) := Nat.mul_le_mul_right _ (Nat.sub_le _ _)
  have q3 : (N - H) * rowN (vecS t e) ≤ N * rowN (vecS t e) := Nat.mul_le_mul_right _ (Nat.sub_le _ _)
  refine ⟨?_, ?_, ?_, by omega, by omega, by omega, by omega, hH1, hH2, sb.1, sb.2⟩
  all_goals
    rcases key with k | ⟨k1, k2⟩
    · rw [Int.natCast_mul, hR, Int.toNat_of_nonneg k]
      try (congr 1; omega)
    · subst k1 k2
      obtain rfl : H = 0 := by omega
      simp
end Go.Proofs.Ythbppjkafbhdaaa
namespace Go.Proofs.Ythbppjkafbhdaaa
open Go.RowKit
set_option linter.unusedVariables false
set_option linter.unusedSimpArgs false
theorem piece_setN5 {B C g c k n : Nat} {w : World} {l : List Int} (h : Piece B C w (.slice (some ⟨g, 0, none⟩) n c) l) (hl : l.length = n) (hk : k < n) (x : Int) : Piece B C (w.setCell ⟨g, k, none⟩ (.int .i64 x)) (.slice (some ⟨g, 0, none⟩) n c) (l.set k x) := by
  subst hl
  have := h.set hk x
  simpa using this
theorem iotaD_len {s d : List Int} (h : iotaC s d = 0) : ((List.range (d.getD 0 0).toNat).map (fun (i : Nat) => (i : Int))).length ≤ 1048576 := by
  have : d.getD 0 0 ≤ 300 := by
    unfold iotaC at h
    by_cases ho : arrOk s d = true
    · by_cases hl : d.length ≠ 1
      · rw [if_pos ho, if_pos hl] at h; cases h
      · by_cases h0 : d.getD 0 0 < 0
        · omega
        · by_cases h3 : 300 < d.getD 0 0
          · rw [if_pos ho, if_neg hl, if_neg h0, if_pos h3] at h; cases h
          · omega
    · rw [if_neg ho] at h; cases h
  rw [List.length_map, List.length_range]
  omega
set_option maxRecDepth 20000 in
set_option maxHeartbeats 4000000 in
/-- Iota. -/
theorem iota_impl {s d : List Int} {w : World} {v : Value} (h : ArrI w v s d) (hd : d.length ≤ 1048576) :
    Calls Try.prog 9 #[v] w fun r w' => ∃ v', r = .returned (.tuple #[v', .int .i64 (iotaR s d).1]) ∧ Arr w.heap.size w'.heap.size w' v' (iotaR s d).2.1 (iotaR s d).2.2 ∧ Below w.heap.size w w' := by
  have HSN : Hid (∀ W, Below w.heap.size w W → Calls Try.prog 24 #[v, .slice none 0 0] W fun r w' => r = .returned (.tuple #[.int .i64 (soleV s d true), .int .i64 (soleC s d true)]) ∧ Below W.heap.size W w') := fun W hb => sole_impl (F := []) (m := 0) (h.keep hb) hd ⟨none, 0, 0, rfl, rfl, .inl rfl⟩ (by decide) (fun j => by simp)
  obtain ⟨a, c, b, e, rfl, ia, ib, ga, gb⟩ := h
  obtain ⟨x, hx⟩ : ∃ x, x = (iotaR s d).1 := ⟨_, rfl⟩
  obtain ⟨S, hS⟩ : ∃ S, S = (iotaR s d).2.1 := ⟨_, rfl⟩
  obtain ⟨D, hD⟩ : ∃ D, D = (iotaR s d).2.2 := ⟨_, rfl⟩
  rw [← hx, ← hS, ← hD]
  have E1 : Hid (soleC s d true ≠ 0 → x = soleC s d true ∧ S = [] ∧ D = []) := fun h => by
    have q : iotaC s d = soleC s d true := by
      unfold soleC at *
      unfold iotaC
      by_cases ho : arrOk s d = true
      · by_cases hl : d.length = 1
        · exact absurd (by simp [ho, hl]) h
        · simp [ho, hl]
      · simp [ho]
    rw [hx, hS, hD]; unfold iotaR; rw [q, mkR_bad h]; exact ⟨rfl, rfl, rfl⟩
  have EQ : soleC s d true = 0 → soleV s d true = d.getD 0 0 ∧ iotaC s d = if d.getD 0 0 < 0 then 2 else if 300 < d.getD 0 0 then 6 else 0 := fun h => by
    refine ⟨by unfold soleV; rw [if_pos h], ?_⟩
    unfold soleC at h
    unfold iotaC
    by_cases ho : arrOk s d = true
    · rw [if_pos ⟨ho, rfl⟩] at h
      rw [if_pos ho]
      by_cases hl : d.length ≠ 1
      · rw [if_pos hl] at h; cases h
      · rw [if_neg hl]
    · rw [if_neg (fun q => ho q.1)] at h; cases h
  have E2 : Hid (soleC s d true = 0 → soleV s d true < 0 → x = 2 ∧ S = [] ∧ D = []) := fun h h1 => by
    obtain ⟨q1, q2⟩ := EQ h
    rw [q1] at h1
    rw [hx, hS, hD]; unfold iotaR; rw [q2, if_pos h1, mkR_bad (by decide)]; exact ⟨rfl, rfl, rfl⟩
  have E3 : Hid (soleC s d true = 0 → ¬ soleV s d true < 0 → 300 < soleV s d true → x = 6 ∧ S = [] ∧ D = []) := fun h h1 h2 => by
    obtain ⟨q1, q2⟩ := EQ h
    rw [q1] at h1 h2
    rw [hx, hS, hD]; unfold iotaR; rw [q2, if_neg h1, if_pos h2, mkR_bad (by decide)]; exact ⟨rfl, rfl, rfl⟩
  have E4 : Hid (soleC s d true = 0 → ∀ n : Nat, soleV s d true = (n : Int) → n ≤ 300 → x = 0 ∧ S = [(n : Int)] ∧ D = (List.range n).map (fun (i : Nat) => (i : Int))) := fun h n h1 h2 => by
    obtain ⟨q1, q2⟩ := EQ h
    rw [q1] at h1
    rw [hx, hS, hD]; unfold iotaR; rw [q2, if_neg (by omega), if_neg (by omega), mkR_good, h1]; exact ⟨rfl, rfl, rfl⟩
  clear hx hS hD ia ib ga gb hd EQ
  generalize soleV s d true = xv at *
  generalize soleC s d true = y at *
  go_enter Try.func9, Try.ntmps9
  go_wp2_with fail
  refine (HSN.out _ (bAlloc (bAlloc (Below.refl _ _) _) _)).mono ?_
  rintro r w1 ⟨rfl, hb⟩
  have HB1 : Hid (Below w.heap.size w w1) := bTrans (bAlloc (bAlloc (Below.refl _ _) _) _) hb
  have R1 : Hid (Box w1 (w.heap.size + 1) (.slice none 0 0) (.slice none 0 0) 26) := (box_new2 w _ _ _ _).keep hb
  clear hb HSN
  by_cases hy : y = 0
  · subst hy
    by_cases h0 : xv < 0
    · obtain ⟨rfl, rfl, rfl⟩ := E2.out (by trivial) h0
      clear E1 E2 E3 E4
      have y0 := R1.out.c0
      have y1 := R1.out.c1
      have f0 : w1.frozen? ⟨w.heap.size + 1, 0, none⟩ = false := free_at R1.out 0
      have f1 : w1.frozen? ⟨w.heap.size + 1, 1, none⟩ = false := free_at R1.out 1
      have HR : Hid (((w1.setCell ⟨w.heap.size + 1, 0, none⟩ (.slice none 0 0)).setCell ⟨w.heap.size + 1, 1, none⟩ (.slice none 0 0)).heap[w.heap.size + 1]? = some (.cells #[.slice none 0 0, .slice none 0 0] 26 (0, 0))) := arr_stored R1.out
      go_wp2
      refine bodyPost_ret (results_arr_tmp Try.results9 _ _ (w.heap.size + 1) _ _ rfl HR.out) rfl ?_
      exact ⟨_, rfl, arr_zero _ _ _, below_setCell (below_setCell HB1.out (by omega) _ _) (by omega) _ _⟩
    · by_cases h3 : 300 < xv
      · obtain ⟨rfl, rfl, rfl⟩ := E3.out (by trivial) (by omega) h3
        clear E1 E2 E3 E4
        have y0 := R1.out.c0
        have y1 := R1.out.c1
        have f0 : w1.frozen? ⟨w.heap.size + 1, 0, none⟩ = false := free_at R1.out 0
        have f1 : w1.frozen? ⟨w.heap.size + 1, 1, none⟩ = false := free_at R1.out 1
        have HR : Hid (((w1.setCell ⟨w.heap.size + 1, 0, none⟩ (.slice none 0 0)).setCell ⟨w.heap.size + 1, 1, none⟩ (.slice none 0 0)).heap[w.heap.size + 1]? = some (.cells #[.slice none 0 0, .slice none 0 0] 26 (0, 0))) := arr_stored R1.out
        go_wp2
        refine bodyPost_ret (results_arr_tmp Try.results9 _ _ (w.heap.size + 1) _ _ rfl HR.out) rfl ?_
        exact ⟨_, rfl, arr_zero _ _ _, below_setCell (below_setCell HB1.out (by omega) _ _) (by omega) _ _⟩
      · obtain ⟨n, rfl⟩ : ∃ n : Nat, xv = (n : Int) := ⟨xv.toNat, by omega⟩
        have hn : n ≤ 300 := by omega
        obtain ⟨rfl, eS, eD⟩ := E4.out (by trivial) n (by trivial) hn
        have ES : Hid (S = [(n : Int)] ∧ D = (List.range n).map (fun (i : Nat) => (i : Int))) := ⟨eS, eD⟩
        clear E1 E2 E3 E4 eS eD
        have hmk : ∀ w, (Instr.makeSlice 24 (.int .i64 (n : Int)) (.int .i64 (n : Int))).run Try.prog w = .ok (.slice (some ⟨w.heap.size, 0, none⟩) n n) (w.alloc (.cells (vals (List.replicate n 0)) 3)) := fun w => make_ints n (by omega) w
        go_wp2
        generalize hW : w1.alloc (.cells (vals (List.replicate n 0)) 3) = W
        have P0 : Hid (Piece w1.heap.size (w1.heap.size + 1) W (.slice (some ⟨w1.heap.size, 0, none⟩) n n) (List.replicate n 0)) := by
          rw [← hW]
          have := OwnInts.piece (ownInts_new w1 (List.replicate n 0)) (B := w1.heap.size) (C := w1.heap.size + 1) (Nat.le_refl _) (Nat.lt_succ_self _) n
          show Piece _ _ _ _ _
          simpa using this
        have B0 : Hid (Below w1.heap.size w1 W) := by rw [← hW]; exact bAlloc (Below.refl _ _) _
        have S0 : Hid (w1.heap.size + 1 ≤ W.heap.size) := by rw [← hW]; show _ ≤ _; simp
        clear hW hmk
        go_loopw [29] (fun i w' => ∃ (k : Nat) (l : List Int), k ≤ n ∧ i = .int .i64 (k : Int) ∧ l = setTo (fun (i : Nat) => (i : Int)) (List.replicate n 0) k ∧ l.length = n ∧ Piece w1.heap.size (w1.heap.size + 1) w' (.slice (some ⟨w1.heap.size, 0, none⟩) n n) l ∧ Below w1.heap.size w1 w' ∧ w1.heap.size + 1 ≤ w'.heap.size) (fun i _ => n - (intOf i).toNat)
        case atStart => exact ⟨0, _, by omega, rfl, by rw [setTo_zero], by simp, P0.out, B0.out, S0.out⟩
        case round =>
          obtain ⟨k, l, hk, rfl, hl, hll, hP, hb, hs⟩ := hrel
          have HL : Hid (l = setTo (fun (i : Nat) => (i : Int)) (List.replicate n 0) k) := hl
          have HLL : Hid (l.length = n) := hll
          have HP : Hid (Piece w1.heap.size (w1.heap.size + 1) wr (.slice (some ⟨w1.heap.size, 0, none⟩) n n) l) := hP
          have HB : Hid (Below w1.heap.size w1 wr ∧ w1.heap.size + 1 ≤ wr.heap.size) := ⟨hb, hs⟩
          clear hl hll hP hb hs P0 B0 S0
          by_cases hlt : (k : Int) < (n : Int)
          · obtain ⟨t1, t2, _, _, _⟩ := HP.out.cellAt (k := k) (by rw [HLL.out]; omega)
            rw [Nat.zero_add] at t1 t2
            generalize l.getD k 0 = z at t1
            have E3 : Hid (l.set k (k : Int) = setTo (fun (i : Nat) => (i : Int)) (List.replicate n 0) (k + 1)) := by show _ = _; rw [HL.out]; exact setTo_set (fun (i : Nat) => (i : Int)) _ (by simp; omega)
            go_wp2
            go_roundw
            case rel => exact ⟨k + 1, _, by omega, by go_num, E3.out, by rw [List.length_set]; exact HLL.out, piece_setN5 HP.out HLL.out (by omega) _, below_setCell HB.out.1 (Nat.le_refl _) _ _, by rw [size_setCell]; exact HB.out.2⟩
            case measure => simp [intOf]; omega
          · obtain rfl : k = n := by omega
            have ED : Hid (D = l) := by show _ = _; rw [ES.out.2, HL.out, setTo_all _ _ (by simp)]
            have R3 : Hid (Box wr (w.heap.size + 1) (.slice none 0 0) (.slice none 0 0) 26) := R1.out.keep HB.out.1
            have LT : Hid (w.heap.size + 1 < w1.heap.size) := R1.out.lt
            have HB5 : Hid (Below w.heap.size w wr) := bTrans HB1.out HB.out.1
            have R4 : Hid (Box (wr.alloc (.cells #[.int .i64 (k : Int)] 3)) (w.heap.size + 1) (.slice none 0 0) (.slice none 0 0) 26) := R3.out.keep (bAlloc (Below.refl _ _) _)
            have PS : Hid (Piece wr.heap.size (wr.heap.size + 1) (wr.alloc (.cells #[.int .i64 (k : Int)] 3)) (.slice (some ⟨wr.heap.size, 0, none⟩) 1 1) [(k : Int)]) := by
              have p := OwnInts.piece (ownInts_new wr [(k : Int)]) (B := wr.heap.size) (C := wr.heap.size + 1) (Nat.le_refl _) (Nat.lt_succ_self _) 1
              show Piece _ _ _ _ _
              simpa [vals] using p
            have PD : Hid (Piece w1.heap.size (w1.heap.size + 1) (wr.alloc (.cells #[.int .i64 (k : Int)] 3)) (.slice (some ⟨w1.heap.size, 0, none⟩) k k) l) := HP.out.keep (bAlloc (Below.refl _ _) _)
            have HB6 : Hid (Below w.heap.size w (wr.alloc (.cells #[.int .i64 (k : Int)] 3))) := bTrans HB5.out (bAlloc (Below.refl _ _) _)
            have SZ : Hid ((wr.alloc (.cells #[.int .i64 (k : Int)] 3)).heap.size = wr.heap.size + 1) := by show _ = _; simp
            have y0 := R3.out.c0
            have y1 := R3.out.c1
            have f0 : wr.frozen? ⟨w.heap.size + 1, 0, none⟩ = false := free_at R3.out 0
            have f1 : wr.frozen? ⟨w.heap.size + 1, 1, none⟩ = false := free_at R3.out 1
            have y0' := R4.out.c0
            have y1' := R4.out.c1
            have f0' : (wr.alloc (.cells #[.int .i64 (k : Int)] 3)).frozen? ⟨w.heap.size + 1, 0, none⟩ = false := free_at R4.out 0
            have f1' : (wr.alloc (.cells #[.int .i64 (k : Int)] 3)).frozen? ⟨w.heap.size + 1, 1, none⟩ = false := free_at R4.out 1
            have HR : Hid ((((wr.alloc (.cells #[.int .i64 (k : Int)] 3)).setCell ⟨w.heap.size + 1, 0, none⟩ (.slice (some ⟨wr.heap.size, 0, none⟩) 1 1)).setCell ⟨w.heap.size + 1, 1, none⟩ (.slice (some ⟨w1.heap.size, 0, none⟩) k k)).heap[w.heap.size + 1]? = some (.cells #[.slice (some ⟨wr.heap.size, 0, none⟩) 1 1, .slice (some ⟨w1.heap.size, 0, none⟩) k k] 26 (0, 0))) := arr_stored R4.out
            go_wp2
            refine bodyPost_ret (results_arr_tmp Try.results9 _ _ (w.heap.size + 1) _ _ rfl HR.out) rfl ?_
            refine ⟨_, rfl, ?_, below_setCell (below_setCell HB6.out (by omega) _ _) (by omega) _ _⟩
            have L1 := LT.out
            have L2 := HB.out.2
            have L3 := SZ.out
            rw [ES.out.1, ED.out]
            have p1' := (PS.out.win (win_setCell _ (w.heap.size + 1) 0 (.slice (some ⟨wr.heap.size, 0, none⟩) 1 1)) (.inr (by omega))).win (win_setCell _ (w.heap.size + 1) 1 (.slice (some ⟨w1.heap.size, 0, none⟩) k k)) (.inr (by omega))
            have p2' := (PD.out.win (win_setCell _ (w.heap.size + 1) 0 (.slice (some ⟨wr.heap.size, 0, none⟩) 1 1)) (.inr (by omega))).win (win_setCell _ (w.heap.size + 1) 1 (.slice (some ⟨w1.heap.size, 0, none⟩) k k)) (.inr (by omega))
            exact ⟨_, _, rfl, p1'.mono (by omega) (by simp only [size_setCell]; omega), p2'.mono (by omega) (by simp only [size_setCell]; omega), p1'.apart p2' (.inr (by omega))⟩
  · obtain ⟨rfl, rfl, rfl⟩ := E1.out hy
    have hne : (x != 0) = true := by simpa using hy
    clear E1 E2 E3 E4 hy
    have y0 := R1.out.c0
    have y1 := R1.out.c1
    have f0 : w1.frozen? ⟨w.heap.size + 1, 0, none⟩ = false := free_at R1.out 0
    have f1 : w1.frozen? ⟨w.heap.size + 1, 1, none⟩ = false := free_at R1.out 1
    have HR : Hid (((w1.setCell ⟨w.heap.size + 1, 0, none⟩ (.slice none 0 0)).setCell ⟨w.heap.size + 1, 1, none⟩ (.slice none 0 0)).heap[w.heap.size + 1]? = some (.cells #[.slice none 0 0, .slice none 0 0] 26 (0, 0))) := arr_stored R1.out
    go_wp2
    refine bodyPost_ret (results_arr_tmp Try.results9 _ _ (w.heap.size + 1) _ _ rfl HR.out) rfl ?_
    exact ⟨_, rfl, arr_zero _ _ _, below_setCell (below_setCell HB1.out (by omega) _ _) (by omega) _ _⟩
end Go.Proofs.Ythbppjkafbhdaaa
