
/-
  Walks: the specification's Rotate.
-/
import Derived.Test.YtfmheanmkfdjnapSpecMake5
import Derived.Test.YtfmheanmkfdjnapSpecMake2
namespace Go.Proofs.Ytfmheanmkfdjnap
open Go.RowKit
set_option linter.unusedVariables false
set_option linter.unusedSimpArgs false
theorem oneC_ok {s d t e : List Int} (ho : arrOk s d = true) (ho' : arrOk t e = true) (hl : d.length = 1) : oneC s d t e = 0 := by unfold oneC; rw [if_pos ⟨ho, ho'⟩, if_neg (by simpa using hl)]
theorem oneC_3 {s d t e : List Int} (ho : arrOk s d = true) (ho' : arrOk t e = true) (hl : ¬ d.length = 1) : oneC s d t e = 3 := by unfold oneC; rw [if_pos ⟨ho, ho'⟩, if_pos hl]
theorem num_bd {s d : List Int} (ho : arrOk s d = true) (h : 0 < d.length) : -1000000000000 ≤ d.getD 0 0 ∧ d.getD 0 0 ≤ 1000000000000 := by
  have h2 : d.all ok = true := by
    unfold arrOk at ho
    simp only [Bool.and_eq_true] at ho
    exact ho.2
  have := List.all_eq_true.1 h2 (d.getD 0 0) (by simp [h])
  exact ok_bd this
theorem wrap64_small {a : Int} (h1 : -1000000000000000 ≤ a) (h2 : a ≤ 1000000000000000) : wrap64 a = a := by unfold wrap64; omega
theorem turn_num {x : Int} {n : Nat} (hn : 0 < n) : (Int.tmod (Int.tmod x n + n) n) = ((rotateBy x n : Nat) : Int) ∧ rotateBy x n < n ∧ -(n : Int) < Int.tmod x n ∧ Int.tmod x n < n := by
  unfold rotateBy
  have h0 : (0 : Int) < (n : Int) := by omega
  have e1 := Int.emod_nonneg x (b := (n : Int)) (by omega)
  have e2 := Int.emod_lt_of_pos x h0
  have hb : -(n : Int) < Int.tmod x n ∧ Int.tmod x n < n := ⟨by have := Int.lt_tmod_of_pos x h0; omega, Int.tmod_lt_of_pos x h0⟩
  refine ⟨?_, by omega, hb⟩
  rw [Int.tmod_eq_emod_of_nonneg (by omega), Int.add_emod_right]
  rw [Int.toNat_of_nonneg e1]
  have e := Int.tmod_add_mul_tdiv x n
  conv => rhs; rw [← e]
  rw [Int.add_mul_emod_self_left]
end Go.Proofs.Ytfmheanmkfdjnap
namespace Go.Proofs.Ytfmheanmkfdjnap
open Go.RowKit
set_option linter.unusedVariables false
set_option linter.unusedSimpArgs false
theorem arrsI_sub {w : World} {o off n c m M : Nat} {F : List (List Int)} {a' : Option Addr} {c' : Nat} (h : ArrsI w (.slice (some ⟨o, off, none⟩) n c) F) (hM : M + m ≤ n) (ha : m = 0 ∨ a' = some ⟨o, off + M * 2, none⟩) : ArrsI w (.slice a' m c') ((F.drop (2 * M)).take (2 * m)) := by
  obtain ⟨a, n', c'', e, hF, h⟩ := h
  cases e
  have hl : ((F.drop (2 * M)).take (2 * m)).length = 2 * m := by simp; omega
  refine ⟨a', m, c', rfl, hl, ?_⟩
  rcases ha with h0 | rfl
  · exact .inl h0
  · by_cases h0 : m = 0
    · exact .inl h0
    · rcases h with h | ⟨o', off', xs, e, ho, hx, hj⟩
      · omega
      · cases e
        refine .inr ⟨o, off + M * 2, (xs.drop (2 * M)).take (2 * m), rfl, ho, by simp; omega, fun j hj' => ?_⟩
        have hj2 : j < 2 * m := by simp at hj'; omega
        obtain ⟨q1, q2⟩ := hj (2 * M + j) (by omega)
        have e1 : ((xs.drop (2 * M)).take (2 * m)).getD j undef = xs.getD (2 * M + j) undef := by simp [List.getD, List.getElem?_take_of_lt hj2]
        have e2 : ((F.drop (2 * M)).take (2 * m)).getD j [] = F.getD (2 * M + j) [] := by simp [List.getD, List.getElem?_take_of_lt hj2]
        rw [e1, e2]
        refine ⟨?_, q2⟩
        rw [show off + M * 2 + j = off + (2 * M + j) from by omega]
        exact q1
/-- A list of arrays from one on. -/
theorem arrs_from {w : World} {a : Option Addr} {n c M : Nat} {F : List (List Int)} (h : ArrsI w (.slice a n c) F) (hc : n ≤ c) (hM : M ≤ n) :
    ∃ a' c', (∀ W, (Instr.slice 49 (.slice a n c) (some (.int .i64 (M : Int))) none none).run Try.prog W = .ok (.slice a' (n - M) c') W) ∧ ArrsI w (.slice a' (n - M) c') ((F.drop (2 * M)).take (2 * (n - M))) := by
  have hrun : ∀ W, (Instr.slice 49 (.slice a n c) (some (.int .i64 (M : Int))) none none).run Try.prog W = .ok (sliced a M n c 2) W := by
    intro W
    have hs : (sizeOf 26).run Try.prog W = .ok 2 W := by kernel_rfl
    have he : Try.prog.elem 49 = 26 := by kernel_rfl
    rw [run_slice_l (P := Try.prog) (w := W) 49 a n c (by rw [he]; exact Try.underlying49) .i64 (M : Int) (by omega) (by omega), he, hs]
    simp [Result.andThen]
  refine ⟨_, _, hrun, ?_⟩
  by_cases h0 : n - M = 0
  · rw [h0]
    exact ⟨_, 0, _, rfl, by simp, .inl rfl⟩
  · obtain ⟨o, off, _, _, rfl, _⟩ := h.at (k := M) (by omega)
    refine arrsI_sub h (by omega) (.inr ?_)
    rw [if_neg (by omega)]
    simp [Addr.add]
/-- A list of arrays up to one. -/
theorem arrs_upto {w : World} {a : Option Addr} {n c m : Nat} {F : List (List Int)} (h : ArrsI w (.slice a n c) F) (hc : n ≤ c) (hm : m ≤ n) :
    ∃ a' c', (∀ W, (Instr.slice 49 (.slice a n c) none (some (.int .i64 (m : Int))) none).run Try.prog W = .ok (.slice a' m c') W) ∧ ArrsI w (.slice a' m c') ((F.drop 0).take (2 * m)) := by
  have hrun : ∀ W, (Instr.slice 49 (.slice a n c) none (some (.int .i64 (m : Int))) none).run Try.prog W = .ok (sliced a 0 m c 2) W := by
    intro W
    have hs : (sizeOf 26).run Try.prog W = .ok 2 W := by kernel_rfl
    have he : Try.prog.elem 49 = 26 := by kernel_rfl
    rw [run_slice_h (P := Try.prog) (w := W) 49 a n c (by rw [he]; exact Try.underlying49) .i64 (m : Int) (by omega) (by omega), he, hs]
    simp [Result.andThen]
  refine ⟨_, _, hrun, ?_⟩
  by_cases h0 : m = 0
  · subst h0
    exact ⟨_, 0, _, rfl, by simp, .inl rfl⟩
  · obtain ⟨o, off, _, _, rfl, _⟩ := h.at (k := 0) (by omega)
    have := arrsI_sub (M := 0) (m := m) (a' := some ⟨o, off, none⟩) (c' := c - 0) h (by omega) (.inr (by simp))
    simpa [sliced, Addr.add] using this
theorem vec_ok {t e : List Int} (h : arrOk t e = true) : arrOk (vecS t e) e = true ∧ vecS t e ≠ [] := by
  unfold vecS
  by_cases ht : t = []
  · subst ht
    rw [if_pos rfl]
    have z := arrOk_size h
    rw [sizeV_0'] at z
    have hl : e.length = 1 := by omega
    refine ⟨?_, by simp⟩
    have h2 : e.all ok = true := by
      unfold arrOk at h
      simp only [Bool.and_eq_true] at h
      exact h.2
    unfold arrOk
    rw [h2, hl]
    decide
  · rw [if_neg ht]; exact ⟨h, ht⟩
end Go.Proofs.Ytfmheanmkfdjnap
namespace Go.Proofs.Ytfmheanmkfdjnap
open Go.RowKit
set_option linter.unusedVariables false
set_option linter.unusedSimpArgs false
theorem rowsF_oddAt {s d : List Int} (ho : arrOk s d = true) (hs : s ≠ []) {M m i : Nat} (h : M + m ≤ rowsN s) (hi : i < m) : (((rowsF s d).drop (2 * M)).take (2 * m)).getD (2 * i + 1) [] = rowAt s d (M + i) := by
  rw [← rowsF_odd ho hs (i := M + i) (by omega)]
  simp only [List.getD_eq_getElem?_getD]
  rw [List.getElem?_take_of_lt (by omega), List.getElem?_drop, show 2 * M + (2 * i + 1) = 2 * (M + i) + 1 from by omega]
theorem cat_cut {s d : List Int} (ho : arrOk s d = true) (hs : s ≠ []) {M m : Nat} (h : M + m ≤ rowsN s) : catF (((rowsF s d).drop (2 * M)).take (2 * m)) m = (d.drop (M * rowN s)).take (m * rowN s) := by
  have key : ∀ k, k ≤ m → catF (((rowsF s d).drop (2 * M)).take (2 * m)) k = (d.drop (M * rowN s)).take (k * rowN s) := by
    intro k
    induction k with
    | zero => intro _; simp [catF]
    | succ k ih =>
      intro hk
      rw [catF_succ, ih (by omega), rowsF_oddAt ho hs h (by omega), Nat.succ_mul, List.take_add]
      congr 1
      unfold rowAt
      rw [List.drop_drop, Nat.add_mul]
  exact key m (Nat.le_refl _)
theorem rows_all {s d : List Int} (ho : arrOk s d = true) (hs : s ≠ []) : rowsN s * rowN s = d.length := by
  obtain ⟨e1, e2⟩ := rowsN_bd ho
  cases s with
  | nil => exact absurd rfl hs
  | cons n0 t =>
    have h0 : n0 = (rowsN (n0 :: t) : Int) := e2
    by_cases hp : 0 < n0
    · obtain ⟨p0, p1, p2⟩ := tail_size ho hp
      have : rowN (n0 :: t) = (sizeV t).toNat := rfl
      have q : ((rowsN (n0 :: t) * rowN (n0 :: t) : Nat) : Int) = (d.length : Int) := by
        rw [this, Int.natCast_mul, ← h0, Int.toNat_of_nonneg p0]; exact p1
      omega
    · have hz : rowsN (n0 :: t) = 0 := by omega
      have z := arrOk_size ho
      have k := (sizeV_ok (arrOk_shape ho)).2.2.2
      have : sizeV (n0 :: t) = 0 := by
        rw [k]
        have : n0 = 0 := by omega
        subst this
        have hf : ∀ l : List Int, List.foldl (fun x1 x2 => x1 * x2) 0 l = 0 := by
          intro l
          induction l with
          | nil => rfl
          | cons y l ih => simpa using ih
        simp [prodV, hf]
      rw [hz, Nat.zero_mul]
      omega
theorem many_nat (x : Int) : manyV x = ((manyV x).toNat : Int) := by unfold manyV; split <;> omega
set_option maxRecDepth 20000 in
set_option maxHeartbeats 4000000 in
/-- Drop. -/
theorem drop_spec {s d t e : List Int} {w : World} {v u : Value} (h : ArrI w v s d) (k : ArrI w u t e) (hd : d.length ≤ 1048576) (ht : t.length ≤ 1048576) (he : e.length ≤ 1048576) :
    Calls Try.prog 18 #[v, u] w fun r w' => ∃ v', r = .returned (.tuple #[v', .int .i64 (dropR s d t e).1]) ∧ Arr w.heap.size w'.heap.size w' v' (dropR s d t e).2.1 (dropR s d t e).2.2 ∧ Below w.heap.size w w' := by
  have H : Hid (ArrI w v s d) := h
  have K : Hid (ArrI w u t e) := k
  obtain ⟨a, c, b, f, rfl, h1, h2, _, _⟩ := h
  obtain ⟨a', c', b', f', rfl, k1, k2, g1, _⟩ := k
  have H2 : Hid (Ints w b d) := h2
  have K1 : Hid (Ints w a' t) := k1
  have HD : Hid (d.length ≤ 1048576) := hd
  have HT : Hid (t.length ≤ 1048576) := ht
  have HE : Hid (e.length ≤ 1048576) := he
  clear h1 h2 hd ht he
  by_cases ho : arrOk s d = true
  · have HO : Hid (arrOk s d = true) := ho
    by_cases ho' : arrOk t e = true
    · have HO' : Hid (arrOk t e = true) := ho'
      by_cases hl : d.length = 1
      · have n1 : ((d.length : Int) != 1) = false := by simp [hl]
        have hlt : (0 : Int) < (d.length : Int) := by omega
        obtain ⟨bx, ox, rfl, hbx, cx⟩ := H2.out.at (k := 0) (by omega)
        rw [Nat.add_zero] at cx
        have CC : Hid (∀ W, Below w.heap.size w W → W.cell? ⟨bx, ox, none⟩ = some (.int .i64 (d.getD 0 0))) := fun W h => (h.cell (p := ⟨bx, ox, none⟩) hbx).trans cx
        have ER : dropR s d t e = (0, dropS (d.getD 0 0) t e, dropD (d.getD 0 0) t e) := by unfold dropR; rw [oneC_ok ho ho' hl]; rfl
        have XB : Hid (-1000000000000 ≤ d.getD 0 0 ∧ d.getD 0 0 ≤ 1000000000000) := num_bd ho (by omega)
        rw [ER]
        clear ER cx hl
        generalize d.getD 0 0 = x at *
        obtain ⟨ov, hv0⟩ := vec_ok ho'
        obtain ⟨e1, e2⟩ := rowsN_bd ov
        have eall := rows_all ov hv0
        have HV5 : Hid (∀ W, Below w.heap.size w W → Calls Try.prog 41 #[.agg #[.slice a' t.length c', .slice b' e.length f']] W fun r w' => ∃ v', r = .returned v' ∧ ArrI w' v' (vecS t e) e ∧ Below W.heap.size W w') := fun W hb => vec5_spec (K.out.keep hb) HE.out
        have ES : dropS x t e = ((rowsN (vecS t e) - haveN x t e : Nat) : Int) :: (vecS t e).drop 1 := rfl
        have ED1 : 0 ≤ x → dropD x t e = e.drop (haveN x t e * rowN (vecS t e)) := fun h => by unfold dropD; rw [if_pos h]
        have ED2 : ¬ 0 ≤ x → dropD x t e = e.take ((rowsN (vecS t e) - haveN x t e) * rowN (vecS t e)) := fun h => by unfold dropD; rw [if_neg h]
        have EH : haveN x t e = min (manyV x).toNat (rowsN (vecS t e)) := rfl
        generalize haveN x t e = G at *
        generalize dropD x t e = D at *
        generalize dropS x t e = S at *
        generalize vecS t e = V at *
        have HV0 : Hid (V ≠ []) := hv0
        have OV : Hid (arrOk V e = true) := ov
        obtain ⟨N, hN⟩ : ∃ N, N = rowsN V := ⟨_, rfl⟩
        rw [← hN] at e1 e2 eall ES ED2 EH
        have hG : G ≤ N := by rw [EH]; exact Nat.min_le_right _ _
        have HF : Hid ((rowsF V e).length = 2 * N) := by show _ = _; rw [rowsF_length, if_pos ⟨ov, hv0⟩, hN]; rfl
        have HL3 : Hid (∀ W u, ArrI W u V e → Calls Try.prog 50 #[u] W fun r w' => ∃ v', r = .returned v' ∧ Arrs W.heap.size w'.heap.size w' v' (rowsF V e) ∧ Below W.heap.size W w' ∧ CapOk v') := fun W u h => l3rows_capne h ov hv0
        have HTL : Hid ((V.drop 1).length ≤ 1000000) := by
          have := (sizeV_ok (arrOk_shape ov)).1
          show _ ≤ _; simp; omega
        have HMX : Hid (∀ W, Calls Try.prog 40 #[.int .i64 x, .int .i64 (IntKind.i64.wrap (-x))] W fun r w' => r = .returned (.int .i64 ((manyV x).toNat : Int)) ∧ w' = W) := fun W => by
          have xb := XB.out
          have e : IntKind.i64.wrap (-x) = 0 - x := by rw [IntKind.wrap_i64]; omega
          rw [e, ← many_nat]
          exact max_spec x (0 - x) W
        have HMY : Hid (∀ W, Calls Try.prog 40 #[.int .i64 x, .int .i64 (-x)] W fun r w' => r = .returned (.int .i64 ((manyV x).toNat : Int)) ∧ w' = W) := fun W => by
          rw [show -x = 0 - x from by omega, ← many_nat]
          exact max_spec x (0 - x) W
        have HMN : Hid (∀ W, Calls Try.prog 43 #[.int .i64 ((manyV x).toNat : Int), .int .i64 (N : Int)] W fun r w' => r = .returned (.int .i64 (G : Int)) ∧ w' = W) := fun W => by
          have e : mn ((manyV x).toNat : Int) (N : Int) = (G : Int) := by rw [EH]; unfold mn; split <;> omega
          rw [← e]
          exact min_spec _ _ W
        have HR5 : Hid (∀ W u q (M : Nat) tl ct, M + (N - G) ≤ N → (0 ≤ x → M = G) → (¬ 0 ≤ x → M = 0) → ArrsI W u (((rowsF V e).drop (2 * M)).take (2 * (N - G))) → IntsI W (.slice tl q ct) (V.drop 1) → Calls Try.prog 51 #[u, .slice tl q ct] W fun r w' => ∃ v', r = .returned v' ∧ Arr W.heap.size w'.heap.size w' v' S D ∧ Below W.heap.size W w') := by
          intro W u q M tl ct hM hx1 hx2 h1 h2
          have hc := cat_cut ov hv0 (M := M) (m := N - G) (by omega)
          have hlen : (((rowsF V e).drop (2 * M)).take (2 * (N - G))).length = 2 * (N - G) := by have := HF.out; simp; omega
          have hle : (catF (((rowsF V e).drop (2 * M)).take (2 * (N - G))) (N - G)).length ≤ 1000000 := by
            rw [hc]; have := HE.out; have := arrOk_len ov; simp; omega
          have := rows5_spec h1 h2 hlen (by omega) HTL.out hle
          rw [ES]
          rw [hc] at this
          have hD : (e.drop (M * rowN V)).take ((N - G) * rowN V) = D := by
            by_cases hx : 0 ≤ x
            · rw [ED1 hx, hx1 hx]
              apply List.take_of_length_le
              rw [List.length_drop, ← eall, ← Nat.sub_mul]
              exact Nat.le_refl _
            · rw [ED2 hx, hx2 hx]; simp
          rw [hD] at this
          exact this
        have xb := XB.out
        have hn : N ≤ 300 := by omega
        have hG3 : (G : Int) ≤ (N : Int) := by omega
        clear ED1 ED2 ES EH eall ho ho' k1 k2 g1 e1 hN ov hv0
        generalize (manyV x).toNat = many at *
        go_enter Try.func18, Try.ntmps18
        go_wp2_with fail
        refine (arrOk_spec (H.out.keep (bAlloc (bAlloc (bAlloc (Below.refl _ _) _) _) _)) HD.out).mono ?_
        rintro r w1 ⟨rfl, hb⟩
        have HB1 : Hid (Below w.heap.size w w1) := bTrans (bAlloc (bAlloc (bAlloc (Below.refl _ _) _) _) _) hb
        have q1 := blocks3 w (.cells #[.slice a s.length c, .slice (some ⟨bx, ox, none⟩) d.length f] 26) (.cells #[.slice a' t.length c', .slice b' e.length f'] 26) (.cells #[.slice none 0 0, .slice none 0 0] 26)
        have X1 : Hid (Box w1 w.heap.size (.slice a s.length c) (.slice (some ⟨bx, ox, none⟩) d.length f) 26) := Box.keep q1.1 hb
        have Y1 : Hid (Box w1 (w.heap.size + 1) (.slice a' t.length c') (.slice b' e.length f') 26) := Box.keep q1.2.1 hb
        have R1 : Hid (Box w1 (w.heap.size + 1 + 1) (.slice none 0 0) (.slice none 0 0) 26) := Box.keep q1.2.2 hb
        clear hb q1
        rw [HO.out]
        have x0 := X1.out.c0
        have x1 := X1.out.c1
        have y0 := Y1.out.c0
        have y1 := Y1.out.c1
        have r0 := R1.out.c0
        have r1 := R1.out.c1
        have f0 : w1.frozen? ⟨w.heap.size + 1 + 1, 0, none⟩ = false := free_at R1.out 0
        have f1 : w1.frozen? ⟨w.heap.size + 1 + 1, 1, none⟩ = false := free_at R1.out 1
        go_wp2_with fail
        refine (arrOk_spec (K.out.keep HB1.out) HE.out).mono ?_
        rintro r w2 ⟨rfl, hb⟩
        have HB2 : Hid (Below w.heap.size w w2) := bTrans HB1.out hb
        have X2 : Hid (Box w2 w.heap.size (.slice a s.length c) (.slice (some ⟨bx, ox, none⟩) d.length f) 26) := X1.out.keep hb
        have Y2 : Hid (Box w2 (w.heap.size + 1) (.slice a' t.length c') (.slice b' e.length f') 26) := Y1.out.keep hb
        have R2 : Hid (Box w2 (w.heap.size + 1 + 1) (.slice none 0 0) (.slice none 0 0) 26) := R1.out.keep hb
        rw [HO'.out]
        clear hb
        clear x0 x1 y0 y1 r0 r1 f0 f1
        clear X1 Y1 R1 HB1
        have x0 := X2.out.c0
        have x1 := X2.out.c1
        have y0 := Y2.out.c0
        have y1 := Y2.out.c1
        have r0 := R2.out.c0
        have r1 := R2.out.c1
        have f0 : w2.frozen? ⟨w.heap.size + 1 + 1, 0, none⟩ = false := free_at R2.out 0
        have f1 : w2.frozen? ⟨w.heap.size + 1 + 1, 1, none⟩ = false := free_at R2.out 1
        have cx := CC.out _ HB2.out
        go_wp2_with fail
        refine (HV5.out _ HB2.out).mono ?_
        rintro r w3 ⟨v3, rfl, hav, hb⟩
        have AV : Hid (ArrI w3 v3 V e) := hav
        obtain ⟨a3, c3, b3, f3, rfl, i3, _, g3, _⟩ := hav
        obtain ⟨tl, ct, hcut, hti⟩ := tail_cut_ne i3 HV0.out g3
        obtain ⟨bv, ov', rfl, hbv, cv⟩ := i3.at (k := 0) (List.length_pos_iff.2 HV0.out)
        rw [Nat.add_zero, e2] at cv
        have hlv : (0 : Int) < (V.length : Int) := by have := List.length_pos_iff.2 HV0.out; omega
        have HTI : Hid (IntsI w3 (.slice tl (V.drop 1).length ct) (V.drop 1)) := hti
        have HB3 : Hid (Below w2.heap.size w2 w3) := hb
        have R3 : Hid (Box w3 (w.heap.size + 1 + 1) (.slice none 0 0) (.slice none 0 0) 26) := R2.out.keep hb
        clear hb hti i3 g3 x0 x1 y0 y1 r0 r1 f0 f1 cx
        generalize V.drop 1 = V' at *
        go_wp2_with fail
        generalize hW : w3.alloc (.cells #[.slice (some ⟨bv, ov', none⟩) V.length c3, .slice b3 e.length f3] 26) = w4
        have Q4 : Hid (Box w4 w3.heap.size (.slice (some ⟨bv, ov', none⟩) V.length c3) (.slice b3 e.length f3) 26) := by rw [← hW]; exact box_new w3 _ _ _
        have B4 : Hid (Below w3.heap.size w3 w4) := by rw [← hW]; exact bAlloc (Below.refl _ _) _
        have cv4 : w4.cell? ⟨bv, ov', none⟩ = some (.int .i64 (N : Int)) := (B4.out.cell (p := ⟨bv, ov', none⟩) hbv).trans cv
        have q0 := Q4.out.c0
        have q1 := Q4.out.c1
        clear hW cv
        have hlN : 0 < V.length := List.length_pos_iff.2 HV0.out
        have hlE : ¬ V = [] := HV0.out
        go_quiet (first | (go_at_call 40; exact Calls.quiet_of_same (HMX.out _)) | (go_at_call 43; exact Calls.quiet_of_same (HMN.out _)))
        generalize hW5 : w4.drewN nq = w5
        have B45 : Hid (Below w3.heap.size w3 w5) := by rw [← hW5]; exact bTrans B4.out (bDrewN (Below.refl _ _) nq)
        have Q5 : Hid (Box w5 w3.heap.size (.slice (some ⟨bv, ov', none⟩) V.length c3) (.slice b3 e.length f3) 26) := by rw [← hW5]; exact Q4.out.keep (bDrewN (Below.refl _ _) nq)
        clear hW5 q0 q1 cv4 Q4 B4
        have q0 := Q5.out.c0
        have q1 := Q5.out.c1
        go_wp2_with fail
        refine (HL3.out _ _ (AV.out.keep B45.out)).mono ?_
        rintro r w6 ⟨v6, rfl, ha, hb, hcap⟩
        have AR : Hid (ArrsI w6 v6 (rowsF V e)) := ha.arrsI
        obtain ⟨ra, rn, rc, rfl, e5, _⟩ := ha.arrsI
        obtain rfl : rn = N := by have := HF.out; omega
        have hrc : rn ≤ rc := hcap _ _ _ rfl
        have HB6 : Hid (Below w5.heap.size w5 w6) := hb
        have Q6 : Hid (Box w6 w3.heap.size (.slice (some ⟨bv, ov', none⟩) V.length c3) (.slice b3 e.length f3) 26) := Q5.out.keep hb
        clear ha hb e5 hcap q0 q1
        have q0 := Q6.out.c0
        have q1 := Q6.out.c1
        by_cases hx : 0 ≤ x
        · have hG0 : (0 : Int) ≤ (G : Int) := by omega
          obtain ⟨ra', rc', hrun, hra⟩ := arrs_from (M := G) AR.out hrc hG
          have RA : Hid (ArrsI w6 (.slice ra' (rn - G) rc') (((rowsF V e).drop (2 * G)).take (2 * (rn - G)))) := hra
          clear hra
          go_wp2_with fail
          refine (HR5.out _ _ _ G _ _ (by omega) (fun _ => by omega) (fun _ => by omega) RA.out ((HTI.out.keep (bTrans B45.out HB6.out)))).mono ?_
          rintro r w8 ⟨v8, rfl, ha, hb⟩
          obtain ⟨a8, c8, b8, f8, rfl, _, _, _, _⟩ := ha.arrI
          have HA : Hid (Arr w2.heap.size w8.heap.size w8 (.agg #[.slice a8 S.length c8, .slice b8 D.length f8]) S D) := ha.mono (Nat.le_trans (Nat.le_trans HB3.out.size B45.out.size) HB6.out.size) (Nat.le_refl _)
          have R8 : Hid (Box w8 (w.heap.size + 1 + 1) (.slice none 0 0) (.slice none 0 0) 26) := ((R3.out.keep B45.out).keep HB6.out).keep hb
          have HB8 : Hid (Below w.heap.size w w8) := bTrans (bTrans (bTrans (bTrans HB2.out HB3.out) B45.out) HB6.out) hb
          have L2 : Hid (w.heap.size + 1 + 1 < w2.heap.size) := R2.out.lt
          clear ha hb q0 q1
          have r0 := R8.out.c0
          have r1 := R8.out.c1
          have f0 : w8.frozen? ⟨w.heap.size + 1 + 1, 0, none⟩ = false := free_at R8.out 0
          have f1 : w8.frozen? ⟨w.heap.size + 1 + 1, 1, none⟩ = false := free_at R8.out 1
          have HR : Hid (((w8.setCell ⟨w.heap.size + 1 + 1, 0, none⟩ (.slice a8 S.length c8)).setCell ⟨w.heap.size + 1 + 1, 1, none⟩ (.slice b8 D.length f8)).heap[w.heap.size + 1 + 1]? = some (.cells #[.slice a8 S.length c8, .slice b8 D.length f8] 26 (0, 0))) := arr_stored R8.out
          go_wp2
          refine bodyPost_ret (results_arr_tmp Try.results18 _ _ (w.heap.size + 1 + 1) _ _ rfl HR.out) rfl ?_
          refine ⟨_, rfl, ?_, below_setCell (below_setCell HB8.out (by omega) _ _) (by omega) _ _⟩
          have L := L2.out
          exact ((HA.out.setCell L _ _).setCell L _ _).mono HB2.out.size (by simp only [size_setCell]; omega)
        · have eNG : (rn : Int) - (G : Int) = ((rn - G : Nat) : Int) := by omega
          obtain ⟨ra', rc', hrun, hra⟩ := arrs_upto (m := rn - G) AR.out hrc (by omega)
          have RA : Hid (ArrsI w6 (.slice ra' (rn - G) rc') (((rowsF V e).drop (2 * 0)).take (2 * (rn - G)))) := hra
          clear hra
          go_wp2_with fail
          refine (HR5.out _ _ _ 0 _ _ (by omega) (fun _ => by omega) (fun _ => by omega) RA.out ((HTI.out.keep (bTrans B45.out HB6.out)))).mono ?_
          rintro r w8 ⟨v8, rfl, ha, hb⟩
          obtain ⟨a8, c8, b8, f8, rfl, _, _, _, _⟩ := ha.arrI
          have HA : Hid (Arr w2.heap.size w8.heap.size w8 (.agg #[.slice a8 S.length c8, .slice b8 D.length f8]) S D) := ha.mono (Nat.le_trans (Nat.le_trans HB3.out.size B45.out.size) HB6.out.size) (Nat.le_refl _)
          have R8 : Hid (Box w8 (w.heap.size + 1 + 1) (.slice none 0 0) (.slice none 0 0) 26) := ((R3.out.keep B45.out).keep HB6.out).keep hb
          have HB8 : Hid (Below w.heap.size w w8) := bTrans (bTrans (bTrans (bTrans HB2.out HB3.out) B45.out) HB6.out) hb
          have L2 : Hid (w.heap.size + 1 + 1 < w2.heap.size) := R2.out.lt
          clear ha hb q0 q1
          have r0 := R8.out.c0
          have r1 := R8.out.c1
          have f0 : w8.frozen? ⟨w.heap.size + 1 + 1, 0, none⟩ = false := free_at R8.out 0
          have f1 : w8.frozen? ⟨w.heap.size + 1 + 1, 1, none⟩ = false := free_at R8.out 1
          have HR : Hid (((w8.setCell ⟨w.heap.size + 1 + 1, 0, none⟩ (.slice a8 S.length c8)).setCell ⟨w.heap.size + 1 + 1, 1, none⟩ (.slice b8 D.length f8)).heap[w.heap.size + 1 + 1]? = some (.cells #[.slice a8 S.length c8, .slice b8 D.length f8] 26 (0, 0))) := arr_stored R8.out
          go_wp2
          refine bodyPost_ret (results_arr_tmp Try.results18 _ _ (w.heap.size + 1 + 1) _ _ rfl HR.out) rfl ?_
          refine ⟨_, rfl, ?_, below_setCell (below_setCell HB8.out (by omega) _ _) (by omega) _ _⟩
          have L := L2.out
          exact ((HA.out.setCell L _ _).setCell L _ _).mono HB2.out.size (by simp only [size_setCell]; omega)
      · have n1 : ((d.length : Int) != 1) = true := by simp; omega
        have ER : dropR s d t e = (3, [], []) := by unfold dropR; rw [oneC_3 ho ho' hl]; rfl
        rw [ER]
        clear ER ho ho' hl k1 k2 g1
        go_enter Try.func18, Try.ntmps18
        go_wp2_with fail
        refine (arrOk_spec (H.out.keep (bAlloc (bAlloc (bAlloc (Below.refl _ _) _) _) _)) HD.out).mono ?_
        rintro r w1 ⟨rfl, hb⟩
        have HB1 : Hid (Below w.heap.size w w1) := bTrans (bAlloc (bAlloc (bAlloc (Below.refl _ _) _) _) _) hb
        have q1 := blocks3 w (.cells #[.slice a s.length c, .slice b d.length f] 26) (.cells #[.slice a' t.length c', .slice b' e.length f'] 26) (.cells #[.slice none 0 0, .slice none 0 0] 26)
        have X1 : Hid (Box w1 w.heap.size (.slice a s.length c) (.slice b d.length f) 26) := Box.keep q1.1 hb
        have Y1 : Hid (Box w1 (w.heap.size + 1) (.slice a' t.length c') (.slice b' e.length f') 26) := Box.keep q1.2.1 hb
        have R1 : Hid (Box w1 (w.heap.size + 1 + 1) (.slice none 0 0) (.slice none 0 0) 26) := Box.keep q1.2.2 hb
        clear hb q1
        rw [HO.out]
        have x0 := X1.out.c0
        have x1 := X1.out.c1
        have y0 := Y1.out.c0
        have y1 := Y1.out.c1
        have r0 := R1.out.c0
        have r1 := R1.out.c1
        have f0 : w1.frozen? ⟨w.heap.size + 1 + 1, 0, none⟩ = false := free_at R1.out 0
        have f1 : w1.frozen? ⟨w.heap.size + 1 + 1, 1, none⟩ = false := free_at R1.out 1
        go_wp2_with fail
        refine (arrOk_spec (K.out.keep HB1.out) HE.out).mono ?_
        rintro r w2 ⟨rfl, hb⟩
        have HB2 : Hid (Below w.heap.size w w2) := bTrans HB1.out hb
        have X2 : Hid (Box w2 w.heap.size (.slice a s.length c) (.slice b d.length f) 26) := X1.out.keep hb
        have Y2 : Hid (Box w2 (w.heap.size + 1) (.slice a' t.length c') (.slice b' e.length f') 26) := Y1.out.keep hb
        have R2 : Hid (Box w2 (w.heap.size + 1 + 1) (.slice none 0 0) (.slice none 0 0) 26) := R1.out.keep hb
        rw [HO'.out]
        clear hb
        clear x0 x1 y0 y1 r0 r1 f0 f1
        clear X1 Y1 R1 HB1
        have x0 := X2.out.c0
        have x1 := X2.out.c1
        have y0 := Y2.out.c0
        have y1 := Y2.out.c1
        have r0 := R2.out.c0
        have r1 := R2.out.c1
        have f0 : w2.frozen? ⟨w.heap.size + 1 + 1, 0, none⟩ = false := free_at R2.out 0
        have f1 : w2.frozen? ⟨w.heap.size + 1 + 1, 1, none⟩ = false := free_at R2.out 1
        have HR : Hid (((w2.setCell ⟨w.heap.size + 1 + 1, 0, none⟩ (.slice none 0 0)).setCell ⟨w.heap.size + 1 + 1, 1, none⟩ (.slice none 0 0)).heap[w.heap.size + 1 + 1]? = some (.cells #[.slice none 0 0, .slice none 0 0] 26 (0, 0))) := arr_stored R2.out
        go_wp2
        refine bodyPost_ret (results_arr_tmp Try.results18 _ _ (w.heap.size + 1 + 1) _ _ rfl HR.out) rfl ?_
        refine ⟨_, rfl, ?_, below_setCell (below_setCell HB2.out (by omega) _ _) (by omega) _ _⟩
        exact arr_zero _ _ _
    · have HO' : Hid (arrOk t e = false) := by show _ = _; simpa using ho'
      have ER : dropR s d t e = (1, [], []) := by unfold dropR; rw [show oneC s d t e = 1 from by unfold oneC; rw [if_neg (fun q => ho' q.2)]]; rfl
      rw [ER]
      clear ER ho ho' k1 k2 g1
      go_enter Try.func18, Try.ntmps18
      go_wp2_with fail
      refine (arrOk_spec (H.out.keep (bAlloc (bAlloc (bAlloc (Below.refl _ _) _) _) _)) HD.out).mono ?_
      rintro r w1 ⟨rfl, hb⟩
      have HB1 : Hid (Below w.heap.size w w1) := bTrans (bAlloc (bAlloc (bAlloc (Below.refl _ _) _) _) _) hb
      have q1 := blocks3 w (.cells #[.slice a s.length c, .slice b d.length f] 26) (.cells #[.slice a' t.length c', .slice b' e.length f'] 26) (.cells #[.slice none 0 0, .slice none 0 0] 26)
      have X1 : Hid (Box w1 w.heap.size (.slice a s.length c) (.slice b d.length f) 26) := Box.keep q1.1 hb
      have Y1 : Hid (Box w1 (w.heap.size + 1) (.slice a' t.length c') (.slice b' e.length f') 26) := Box.keep q1.2.1 hb
      have R1 : Hid (Box w1 (w.heap.size + 1 + 1) (.slice none 0 0) (.slice none 0 0) 26) := Box.keep q1.2.2 hb
      clear hb q1
      rw [HO.out]
      have x0 := X1.out.c0
      have x1 := X1.out.c1
      have y0 := Y1.out.c0
      have y1 := Y1.out.c1
      have r0 := R1.out.c0
      have r1 := R1.out.c1
      have f0 : w1.frozen? ⟨w.heap.size + 1 + 1, 0, none⟩ = false := free_at R1.out 0
      have f1 : w1.frozen? ⟨w.heap.size + 1 + 1, 1, none⟩ = false := free_at R1.out 1
      go_wp2_with fail
      refine (arrOk_spec (K.out.keep HB1.out) HE.out).mono ?_
      rintro r w2 ⟨rfl, hb⟩
      have HB2 : Hid (Below w.heap.size w w2) := bTrans HB1.out hb
      have X2 : Hid (Box w2 w.heap.size (.slice a s.length c) (.slice b d.length f) 26) := X1.out.keep hb
      have Y2 : Hid (Box w2 (w.heap.size + 1) (.slice a' t.length c') (.slice b' e.length f') 26) := Y1.out.keep hb
      have R2 : Hid (Box w2 (w.heap.size + 1 + 1) (.slice none 0 0) (.slice none 0 0) 26) := R1.out.keep hb
      rw [HO'.out]
      clear hb
      clear x0 x1 y0 y1 r0 r1 f0 f1
      clear X1 Y1 R1 HB1
      have x0 := X2.out.c0
      have x1 := X2.out.c1
      have y0 := Y2.out.c0
      have y1 := Y2.out.c1
      have r0 := R2.out.c0
      have r1 := R2.out.c1
      have f0 : w2.frozen? ⟨w.heap.size + 1 + 1, 0, none⟩ = false := free_at R2.out 0
      have f1 : w2.frozen? ⟨w.heap.size + 1 + 1, 1, none⟩ = false := free_at R2.out 1
      have HR : Hid (((w2.setCell ⟨w.heap.size + 1 + 1, 0, none⟩ (.slice none 0 0)).setCell ⟨w.heap.size + 1 + 1, 1, none⟩ (.slice none 0 0)).heap[w.heap.size + 1 + 1]? = some (.cells #[.slice none 0 0, .slice none 0 0] 26 (0, 0))) := arr_stored R2.out
      go_wp2
      refine bodyPost_ret (results_arr_tmp Try.results18 _ _ (w.heap.size + 1 + 1) _ _ rfl HR.out) rfl ?_
      refine ⟨_, rfl, ?_, below_setCell (below_setCell HB2.out (by omega) _ _) (by omega) _ _⟩
      exact arr_zero _ _ _
  · have HO : Hid (arrOk s d = false) := by show _ = _; simpa using ho
    have ER : dropR s d t e = (1, [], []) := by unfold dropR; rw [show oneC s d t e = 1 from by unfold oneC; rw [if_neg (fun q => ho q.1)]]; rfl
    rw [ER]
    clear ER ho k1 k2 g1
    go_enter Try.func18, Try.ntmps18
    go_wp2_with fail
    refine (arrOk_spec (H.out.keep (bAlloc (bAlloc (bAlloc (Below.refl _ _) _) _) _)) HD.out).mono ?_
    rintro r w1 ⟨rfl, hb⟩
    have HB1 : Hid (Below w.heap.size w w1) := bTrans (bAlloc (bAlloc (bAlloc (Below.refl _ _) _) _) _) hb
    have q1 := blocks3 w (.cells #[.slice a s.length c, .slice b d.length f] 26) (.cells #[.slice a' t.length c', .slice b' e.length f'] 26) (.cells #[.slice none 0 0, .slice none 0 0] 26)
    have X1 : Hid (Box w1 w.heap.size (.slice a s.length c) (.slice b d.length f) 26) := Box.keep q1.1 hb
    have Y1 : Hid (Box w1 (w.heap.size + 1) (.slice a' t.length c') (.slice b' e.length f') 26) := Box.keep q1.2.1 hb
    have R1 : Hid (Box w1 (w.heap.size + 1 + 1) (.slice none 0 0) (.slice none 0 0) 26) := Box.keep q1.2.2 hb
    clear hb q1
    rw [HO.out]
    have x0 := X1.out.c0
    have x1 := X1.out.c1
    have y0 := Y1.out.c0
    have y1 := Y1.out.c1
    have r0 := R1.out.c0
    have r1 := R1.out.c1
    have f0 : w1.frozen? ⟨w.heap.size + 1 + 1, 0, none⟩ = false := free_at R1.out 0
    have f1 : w1.frozen? ⟨w.heap.size + 1 + 1, 1, none⟩ = false := free_at R1.out 1
    have HR : Hid (((w1.setCell ⟨w.heap.size + 1 + 1, 0, none⟩ (.slice none 0 0)).setCell ⟨w.heap.size + 1 + 1, 1, none⟩ (.slice none 0 0)).heap[w.heap.size + 1 + 1]? = some (.cells #[.slice none 0 0, .slice none 0 0] 26 (0, 0))) := arr_stored R1.out
    go_wp2
    refine bodyPost_ret (results_arr_tmp Try.results18 _ _ (w.heap.size + 1 + 1) _ _ rfl HR.out) rfl ?_
    refine ⟨_, rfl, ?_, below_setCell (below_setCell HB1.out (by omega) _ _) (by omega) _ _⟩
    exact arr_zero _ _ _
end Go.Proofs.Ytfmheanmkfdjnap
