/-
  Several texts, one behind the other: SpecMake7, SpecMake3, Cuts2.
-/
import Derived.Test.YtnkacfgbkfkhdaaGreatY31
import Derived.Test.YtnkacfgbkfkhdaaGreatY30
namespace Go.Proofs.YtnkacfgbkfkhdaaGreat
open Go.RowKit
set_option linter.unusedVariables false
set_option linter.unusedSimpArgs false
theorem rowsF_oddAt {s d : List Int} (ho : arrOk s d = true) (hs : s ≠ []) {M m i : Nat} (h : M + m ≤ rowsN s) (hi : i < m) : (((rowsF s d).drop (2 * M)).take (2 * m)).getD (2 * i + 1) [] = rowAt s d (M + i) := by
  rw [← rowsF_odd ho hs (i := M + i) (by omega)]
  simp only [List.getD_eq_getElem?_getD]
  rw [List.getElem?_take_of_lt (by omega), List.getElem?_drop, show 2 * M + (2 * i + 1) = 2 * (M + i) + 1 from by omega]
theorem cat_cut {s d : List Int} (ho : arrOk s d = true) (hs : s ≠ []) {M m : Nat} (h : M + m ≤ rowsN s) : catF (((rowsF s d).drop (2 * M)).take (2 * m)) m = (d.drop (M * rowN s)).take (m * rowN s) := by
  have key : ∀ k, k ≤ m → catF (((rowsF s d).drop (2 * M)).take (2 * m)) k = (d.drop (M * rowN s)).take (k * rowN s) := by
    intro k
    induction k with
    | zero => intro _; simp [catF]
    | succ k ih =>
      intro hk
      rw [catF_succ, ih (by omega), rowsF_oddAt ho hs h (by omega), Nat.succ_mul, List.take_add]
      congr 1
      unfold rowAt
      rw [List.drop_drop, Nat.add_mul]
  exact key m (Nat.le_refl _)
theorem rows_all {s d : List Int} (ho : arrOk s d = true) (hs : s ≠ []) : rowsN s * rowN s = d.length := by
  obtain ⟨e1, e2⟩ := rowsN_bd ho
  cases s with
  | nil => exact absurd rfl hs
  | cons n0 t =>
    have h0 : n0 = (rowsN (n0 :: t) : Int) := e2
    by_cases hp : 0 < n0
    · obtain ⟨p0, p1, p2⟩ := tail_size ho hp
      have : rowN (n0 :: t) = (sizeV t).toNat := rfl
      have q : ((rowsN (n0 :: t) * rowN (n0 :: t) : Nat) : Int) = (d.length : Int) := by
        rw [this, Int.natCast_mul, ← h0, Int.toNat_of_nonneg p0]; exact p1
      omega
    · have hz : rowsN (n0 :: t) = 0 := by omega
      have z := arrOk_size ho
      have k := (sizeV_ok (arrOk_shape ho)).2.2.2
      have : sizeV (n0 :: t) = 0 := by
        rw [k]
        have : n0 = 0 := by omega
        subst this
        have hf : ∀ l : List Int, List.foldl (fun x1 x2 => x1 * x2) 0 l = 0 := by
          intro l
          induction l with
          | nil => rfl
          | cons y l ih => simpa using ih
        simp [prodV, hf]
      rw [hz, Nat.zero_mul]
      omega
theorem many_nat (x : Int) : manyV x = ((manyV x).toNat : Int) := by unfold manyV; split <;> omega
end Go.Proofs.YtnkacfgbkfkhdaaGreat
namespace Go.Proofs.YtnkacfgbkfkhdaaGreat
open Go.RowKit
set_option linter.unusedVariables false
set_option linter.unusedSimpArgs false
theorem blocks4 (w : World) (A B C D : Obj) : ((((w.alloc A).alloc B).alloc C).alloc D).heap[w.heap.size]? = some A ∧ ((((w.alloc A).alloc B).alloc C).alloc D).heap[w.heap.size + 1]? = some B ∧ ((((w.alloc A).alloc B).alloc C).alloc D).heap[w.heap.size + 1 + 1]? = some C ∧ ((((w.alloc A).alloc B).alloc C).alloc D).heap[w.heap.size + 1 + 1 + 1]? = some D := by
  have q := blocks3 w A B C
  have e4 := heap_alloc_new (((w.alloc A).alloc B).alloc C) D
  simp only [World.size_alloc] at e4
  refine ⟨?_, ?_, ?_, e4⟩
  · rw [heap_alloc_old _ _ (by simp only [World.size_alloc]; omega)]; exact q.1
  · rw [heap_alloc_old _ _ (by simp only [World.size_alloc]; omega)]; exact q.2.1
  · rw [heap_alloc_old _ _ (by simp only [World.size_alloc]; omega)]; exact q.2.2
theorem againD_succ (e : List Int) (k : Nat) : againD e k ++ [if e = [] then 0 else e.getD (k % e.length) 0] = againD e (k + 1) := by
  unfold againD; rw [List.range_succ]; simp
theorem any_take {d : List Int} {k : Nat} (h : (d.take k).any (fun x => decide (x < 0)) = false) (hk : k < d.length) (hx : ¬ d.getD k 0 < 0) : (d.take (k + 1)).any (fun x => decide (x < 0)) = false := by
  rw [take_snoc hk, List.any_append, h]
  simpa using hx
end Go.Proofs.YtnkacfgbkfkhdaaGreat
namespace Go.Proofs.YtnkacfgbkfkhdaaGreat
open Go.RowKit
set_option linter.unusedVariables false
set_option linter.unusedSimpArgs false
/-- A list of numbers up to one. -/
theorem ints_upto {w : World} {a : Option Addr} {l : List Int} {c M : Nat} (h : Ints w a l) (hc : l.length ≤ c) (hM : M ≤ l.length) :
    ∃ a' c', (∀ W, (Instr.slice 24 (.slice a l.length c) none (some (.int .i64 (M : Int))) none).run Tryz.prog W = .ok (.slice a' M c') W) ∧ Ints w a' (l.take M) := by
  have hrun : ∀ W, (Instr.slice 24 (.slice a l.length c) none (some (.int .i64 (M : Int))) none).run Tryz.prog W = .ok (sliced a 0 M c 1) W := by
    intro W
    have hs : (sizeOf 3).run Tryz.prog W = .ok 1 W := by kernel_rfl
    have he : Tryz.prog.elem 24 = 3 := by kernel_rfl
    rw [run_slice_h (P := Tryz.prog) (w := W) 24 a l.length c (by rw [he]; exact Tryz.underlying24) .i64 (M : Int) (by omega) (by omega), he, hs]
    simp [Result.andThen]
  refine ⟨_, _, hrun, ?_⟩
  by_cases h0 : M = 0
  · subst h0; exact .inl (by simp)
  · obtain ⟨b, o, rfl, _, _⟩ := h.at (k := 0) (by omega)
    have := ints_cut (m := 0) (n := M) h (by omega)
    have e : (if c = 0 then (some ⟨b, o, none⟩ : Option Addr) else (some (⟨b, o, none⟩ : Addr)).map (·.add (0 * 1))) = some ⟨b, o, none⟩ := by
      split
      · rfl
      · simp [Addr.add]
    rw [e]
    simpa using this
/-- A list of numbers from one on. -/
theorem ints_from {w : World} {a : Option Addr} {l : List Int} {c M : Nat} (h : Ints w a l) (hc : l.length ≤ c) (hM : M ≤ l.length) :
    ∃ a' c', (∀ W, (Instr.slice 24 (.slice a l.length c) (some (.int .i64 (M : Int))) none none).run Tryz.prog W = .ok (.slice a' (l.drop M).length c') W) ∧ Ints w a' (l.drop M) := by
  have hrun : ∀ W, (Instr.slice 24 (.slice a l.length c) (some (.int .i64 (M : Int))) none none).run Tryz.prog W = .ok (sliced a M l.length c 1) W := by
    intro W
    have hs : (sizeOf 3).run Tryz.prog W = .ok 1 W := by kernel_rfl
    have he : Tryz.prog.elem 24 = 3 := by kernel_rfl
    rw [run_slice_l (P := Tryz.prog) (w := W) 24 a l.length c (by rw [he]; exact Tryz.underlying24) .i64 (M : Int) (by omega) (by omega), he, hs]
    simp [Result.andThen]
  rw [show (l.drop M).length = l.length - M from by simp]
  refine ⟨_, _, hrun, ?_⟩
  by_cases h0 : l.length - M = 0
  · exact .inl (List.eq_nil_of_length_eq_zero (by simpa using h0))
  · obtain ⟨b, o, rfl, _, _⟩ := h.at (k := 0) (by omega)
    have := ints_cut (m := M) (n := l.length - M) h (by omega)
    rw [if_neg (by omega)]
    have e2 : (l.drop M).take (l.length - M) = l.drop M := List.take_of_length_le (by simp)
    rw [e2] at this
    by_cases hM0 : M = 0 <;> simpa [Addr.add, hM0] using this
/-- Growing by a list: nothing but the list's own block is turned. -/
theorem growG {B : Nat} {w : World} {v : Value} {l m : List Int} {a : Option Addr} (h : NewInts B w v l) (hm : Ints w a m) (hB : B ≤ w.heap.size) (hl : l.length + m.length ≤ 1048576) (c : Nat) :
    ∃ a' c' w', (Builtin.append_ #[24, 24] 24 #[v, .slice a m.length c]).run Tryz.prog w = .ok (.slice a' (l ++ m).length c') w' ∧ NewInts B w' (.slice a' (l ++ m).length c') (l ++ m) ∧ w.grownBy w' v.ownBlock ∧ ((Value.slice a' (l ++ m).length c').ownBlock = v.ownBlock ∨ (Value.slice a' (l ++ m).length c').ownBlock = some w.heap.size) := by
  obtain ⟨i, hq, z1, z2, z3⟩ : ∃ i, Tryz.prog.info? 3 = some i ∧ i.zero = some (.int .i64 0) ∧ i.size = 1 ∧ i.bytes = 8 := by
    have hi := info_int
    cases hq : Tryz.prog.info? 3 with
    | none => rw [hq] at hi; cases hi
    | some i => rw [hq] at hi; simp at hi; exact ⟨i, rfl, hi.1, hi.2.1, hi.2.2⟩
  cases a with
  | none =>
    obtain rfl : m = [] := by
      rcases hm with h | ⟨b, off, e, _⟩
      · exact h
      · cases e
    obtain ⟨base, cap, rfl, hle⟩ : ∃ base cap, v = .slice base l.length cap ∧ l.length ≤ cap := by
      rcases h.2 with ⟨e, h0⟩ | ⟨g, cap, cur, e, _, _, hle, _⟩
      · exact ⟨none, 0, by rw [e, h0], by omega⟩
      · exact ⟨_, cap, e, hle⟩
    refine ⟨base, cap, w, ?_, by simpa using h, ⟨rfl, rfl, rfl, Nat.le_refl _, fun _ _ _ => rfl⟩, .inl (by simp [Value.ownBlock])⟩
    have := run_append_nothing (P := Tryz.prog) w 24 24 24 3 i Tryz.underlying24 hq base l.length cap hle (.slice none 0 c) (by rw [z2]; exact Src.ofNil w Tryz.underlying24 c)
    simpa using this
  | some ad =>
    have hn : ∀ (j : Nat) (u : Value), (m.map (Value.int .i64))[j]? = some u → w.cell? (ad.add j) = some u := by
      rcases hm with rfl | ⟨b, off, e, _, hc⟩
      · intro j u hu; simp at hu
      · cases e; exact ints_news hc
    obtain ⟨v', w', hr, h2, h3, _, h5⟩ := run_append_own_at (P := Tryz.prog) w B 24 24 3 i (.int .i64 0) 1 8 Tryz.underlying24 hq z1 z2 z3 rfl (by decide) v l.length (l.map (Value.int .i64)) h ad m.length c (m.map (Value.int .i64)) (by simp) hn (by intro u hu; obtain ⟨x, _, rfl⟩ := List.mem_map.1 hu; rfl) (by unfold maxLen; omega) (by omega) hB
    have h2' : NewInts B w' v' (l ++ m) := by
      show World.ownsRow _ _ _ _ _ _ _
      simpa using h2
    obtain ⟨a', c', rfl, _⟩ := h2'.ints
    exact ⟨a', c', w', hr, h2', h3, h5⟩
theorem sizeV_tail {n0 : Int} {t : List Int} (h : 0 ≤ sizeV (n0 :: t)) (hp : 0 < n0) : 0 ≤ sizeV t ∧ n0 * sizeV t = sizeV (n0 :: t) := by
  have ho : arrOk (n0 :: t) (List.replicate (sizeV (n0 :: t)).toNat 0) = true := by
    unfold arrOk
    have e1 : (List.replicate (sizeV (n0 :: t)).toNat (0 : Int)).all ok = true := by
      rw [List.all_eq_true]
      intro x hx
      obtain rfl := (List.mem_replicate.1 hx).2
      decide
    rw [e1]
    simp
    omega
  obtain ⟨p0, p1, p2⟩ := tail_size ho hp
  refine ⟨p0, ?_⟩
  rw [p1]
  simp
  omega
theorem dim_bd {n0 : Int} {t : List Int} (h : 0 ≤ sizeV (n0 :: t)) : 0 ≤ n0 ∧ n0 ≤ 300 := by
  have := (sizeV_ok h).2.1
  rw [List.all_eq_true] at this
  have := this n0 (by simp)
  simpa [dimOk] using this
/-- What is taken, and what is left out, in numbers. -/
theorem take_nums {t e : List Int} {x : Int} (ho : arrOk t e = true) (hz : 0 ≤ sizeV (takeS x t e)) :
    (haveN x t e : Int) * sizeV ((vecS t e).drop 1) = ((haveN x t e * rowN (vecS t e) : Nat) : Int) ∧
    (((manyV x).toNat : Int) - (haveN x t e : Int)) * sizeV ((vecS t e).drop 1) = ((((manyV x).toNat - haveN x t e) * rowN (vecS t e) : Nat) : Int) ∧
    ((rowsN (vecS t e) : Int) - (haveN x t e : Int)) * sizeV ((vecS t e).drop 1) = (((rowsN (vecS t e) - haveN x t e) * rowN (vecS t e) : Nat) : Int) ∧
    haveN x t e * rowN (vecS t e) ≤ e.length ∧ ((manyV x).toNat - haveN x t e) * rowN (vecS t e) ≤ 300 ∧ (rowsN (vecS t e) - haveN x t e) * rowN (vecS t e) ≤ e.length ∧ (manyV x).toNat ≤ 300 ∧ haveN x t e ≤ (manyV x).toNat ∧ haveN x t e ≤ rowsN (vecS t e) ∧ -1 ≤ sizeV ((vecS t e).drop 1) ∧ sizeV ((vecS t e).drop 1) ≤ 300 := by
  obtain ⟨ov, hv0⟩ := vec_ok ho
  obtain ⟨e1, e2⟩ := rowsN_bd ov
  have eall := rows_all ov hv0
  have hm := many_nat x
  have eta := cons_eta hv0
  have hH : haveN x t e = min (manyV x).toNat (rowsN (vecS t e)) := rfl
  have hR : rowN (vecS t e) = (sizeV ((vecS t e).drop 1)).toNat := rfl
  have sb := sizeV_bd ((vecS t e).drop 1)
  unfold takeS at hz
  have hd := dim_bd hz
  have key : 0 ≤ sizeV ((vecS t e).drop 1) ∨ ((manyV x).toNat = 0 ∧ rowsN (vecS t e) = 0) := by
    by_cases h1 : 0 < manyV x
    · exact .inl (sizeV_tail hz h1).1
    · by_cases h2 : 0 < rowsN (vecS t e)
      · refine .inl ?_
        have hs := arrOk_shape ov
        rw [← eta] at hs
        exact (sizeV_tail hs (by omega)).1
      · exact .inr ⟨by omega, by omega⟩
  have hmz : (manyV x).toNat * rowN (vecS t e) ≤ 300 := by
    by_cases h1 : 0 < manyV x
    · obtain ⟨p0, p1⟩ := sizeV_tail hz h1
      have b := (sizeV_bd (manyV x :: (vecS t e).drop 1)).2
      have : (((manyV x).toNat * rowN (vecS t e) : Nat) : Int) ≤ 300 := by
        rw [Int.natCast_mul, ← hm, hR, Int.toNat_of_nonneg p0, p1]; exact b
      omega
    · have : (manyV x).toNat = 0 := by omega
      rw [this]; simp
  generalize rowsN (vecS t e) = N at *
  generalize haveN x t e = H at *
  generalize (manyV x).toNat = m at *
  have hH1 : H ≤ m := by rw [hH]; exact Nat.min_le_left _ _
  have hH2 : H ≤ N := by rw [hH]; exact Nat.min_le_right _ _
  have q1 : H * rowN (vecS t e) ≤ N * rowN (vecS t e) := Nat.mul_le_mul_right _ hH2
  have q2 : (m - H) * rowN (vecS t e) ≤ m * rowN (vecS t e) := Nat.mul_le_mul_right _ (Nat.sub_le _ _)
  have q3 : (N - H) * rowN (vecS t e) ≤ N * rowN (vecS t e) := Nat.mul_le_mul_right _ (Nat.sub_le _ _)
  refine ⟨?_, ?_, ?_, by omega, by omega, by omega, by omega, hH1, hH2, sb.1, sb.2⟩
  all_goals
    rcases key with k | ⟨k1, k2⟩
    · rw [Int.natCast_mul, hR, Int.toNat_of_nonneg k]
      try (congr 1; omega)
    · subst k1 k2
      obtain rfl : H = 0 := by omega
      simp
end Go.Proofs.YtnkacfgbkfkhdaaGreat
