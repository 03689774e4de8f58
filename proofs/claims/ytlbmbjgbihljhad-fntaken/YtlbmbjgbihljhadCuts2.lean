/-
  Cuts of lists of numbers; a list that grows, with what stays told block by block; sizes of tails.
-/
import Derived.Test.YtlbmbjgbihljhadSpecMake6
import Derived.Test.YtlbmbjgbihljhadSpecMake2
namespace Go.Proofs.Ytlbmbjgbihljhad
open Go.RowKit
set_option linter.unusedVariables false
set_option linter.unusedSimpArgs false
/-- A list of numbers up to one. -/
theorem ints_upto {w : World} {a : Option Addr} {l : List Int} {c M : Nat} (h : Ints w a l) (hc : l.length ≤ c) (hM : M ≤ l.length) :
    ∃ a' c', (∀ W, (Instr.slice 24 (.slice a l.length c) none (some (.int .i64 (M : Int))) none).run Try.prog W = .ok (.slice a' M c') W) ∧ Ints w a' (l.take M) := by
  have hrun : ∀ W, (Instr.slice 24 (.slice a l.length c) none (some (.int .i64 (M : Int))) none).run Try.prog W = .ok (sliced a 0 M c 1) W := by
    intro W
    have hs : (sizeOf 3).run Try.prog W = .ok 1 W := by kernel_rfl
    have he : Try.prog.elem 24 = 3 := by kernel_rfl
    rw [run_slice_h (P := Try.prog) (w := W) 24 a l.length c (by rw [he]; exact Try.underlying24) .i64 (M : Int) (by omega) (by omega), he, hs]
    simp [Result.andThen]
  refine ⟨_, _, hrun, ?_⟩
  by_cases h0 : M = 0
  · subst h0; exact .inl (by simp)
  · obtain ⟨b, o, rfl, _, _⟩ := h.at (k := 0) (by omega)
    have := ints_cut (m := 0) (n := M) h (by omega)
    have e : (if c = 0 then (some ⟨b, o, none⟩ : Option Addr) else (some (⟨b, o, none⟩ : Addr)).map (·.add (0 * 1))) = some ⟨b, o, none⟩ := by
      split
      · rfl
      · simp [Addr.add]
    rw [e]
    simpa using this
/-- A list of numbers from one on. -/
theorem ints_from {w : World} {a : Option Addr} {l : List Int} {c M : Nat} (h : Ints w a l) (hc : l.length ≤ c) (hM : M ≤ l.length) :
    ∃ a' c', (∀ W, (Instr.slice 24 (.slice a l.length c) (some (.int .i64 (M : Int))) none none).run Try.prog W = .ok (.slice a' (l.drop M).length c') W) ∧ Ints w a' (l.drop M) := by
  have hrun : ∀ W, (Instr.slice 24 (.slice a l.length c) (some (.int .i64 (M : Int))) none none).run Try.prog W = .ok (sliced a M l.length c 1) W := by
    intro W
    have hs : (sizeOf 3).run Try.prog W = .ok 1 W := by kernel_rfl
    have he : Try.prog.elem 24 = 3 := by kernel_rfl
    rw [run_slice_l (P := Try.prog) (w := W) 24 a l.length c (by rw [he]; exact Try.underlying24) .i64 (M : Int) (by omega) (by omega), he, hs]
    simp [Result.andThen]
  rw [show (l.drop M).length = l.length - M from by simp]
  refine ⟨_, _, hrun, ?_⟩
  by_cases h0 : l.length - M = 0
  · exact .inl (List.eq_nil_of_length_eq_zero (by simpa using h0))
  · obtain ⟨b, o, rfl, _, _⟩ := h.at (k := 0) (by omega)
    have := ints_cut (m := M) (n := l.length - M) h (by omega)
    rw [if_neg (by omega)]
    have e2 : (l.drop M).take (l.length - M) = l.drop M := List.take_of_length_le (by simp)
    rw [e2] at this
    by_cases hM0 : M = 0 <;> simpa [Addr.add, hM0] using this
/-- Growing by a list: nothing but the list's own block is turned. -/
theorem growG {B : Nat} {w : World} {v : Value} {l m : List Int} {a : Option Addr} (h : NewInts B w v l) (hm : Ints w a m) (hB : B ≤ w.heap.size) (hl : l.length + m.length ≤ 1048576) (c : Nat) :
    ∃ a' c' w', (Builtin.append_ #[24, 24] 24 #[v, .slice a m.length c]).run Try.prog w = .ok (.slice a' (l ++ m).length c') w' ∧ NewInts B w' (.slice a' (l ++ m).length c') (l ++ m) ∧ w.grownBy w' v.ownBlock ∧ ((Value.slice a' (l ++ m).length c').ownBlock = v.ownBlock ∨ (Value.slice a' (l ++ m).length c').ownBlock = some w.heap.size) := by
  obtain ⟨i, hq, z1, z2, z3⟩ : ∃ i, Try.prog.info? 3 = some i ∧ i.zero = some (.int .i64 0) ∧ i.size = 1 ∧ i.bytes = 8 := by
    have hi := info_int
    cases hq : Try.prog.info? 3 with
    | none => rw [hq] at hi; cases hi
    | some i => rw [hq] at hi; simp at hi; exact ⟨i, rfl, hi.1, hi.2.1, hi.2.2⟩
  cases a with
  | none =>
    obtain rfl : m = [] := by
      rcases hm with h | ⟨b, off, e, _⟩
      · exact h
      · cases e
    obtain ⟨base, cap, rfl, hle⟩ : ∃ base cap, v = .slice base l.length cap ∧ l.length ≤ cap := by
      rcases h.2 with ⟨e, h0⟩ | ⟨g, cap, cur, e, _, _, hle, _⟩
      · exact ⟨none, 0, by rw [e, h0], by omega⟩
      · exact ⟨_, cap, e, hle⟩
    refine ⟨base, cap, w, ?_, by simpa using h, ⟨rfl, rfl, rfl, Nat.le_refl _, fun _ _ _ => rfl⟩, .inl (by simp [Value.ownBlock])⟩
    have := run_append_nothing (P := Try.prog) w 24 24 24 3 i Try.underlying24 hq base l.length cap hle (.slice none 0 c) (by rw [z2]; exact Src.ofNil w Try.underlying24 c)
    simpa using this
  | some ad =>
    have hn : ∀ (j : Nat) (u : Value), (m.map (Value.int .i64))[j]? = some u → w.cell? (ad.add j) = some u := by
      rcases hm with rfl | ⟨b, off, e, _, hc⟩
      · intro j u hu; simp at hu
      · cases e; exact ints_news hc
    obtain ⟨v', w', hr, h2, h3, _, h5⟩ := run_append_own_at (P := Try.prog) w B 24 24 3 i (.int .i64 0) 1 8 Try.underlying24 hq z1 z2 z3 rfl (by decide) v l.length (l.map (Value.int .i64)) h ad m.length c (m.map (Value.int .i64)) (by simp) hn (by intro u hu; obtain ⟨x, _, rfl⟩ := List.mem_map.1 hu; rfl) (by unfold maxLen; omega) (by omega) hB
    have h2' : NewInts B w' v' (l ++ m) := by
      show World.ownsRow _ _ _ _ _ _ _
      simpa using h2
    obtain ⟨a', c', rfl, _⟩ := h2'.ints
    exact ⟨a', c', w', hr, h2', h3, h5⟩
theorem sizeV_tail {n0 : Int} {t : List Int} (h : 0 ≤ sizeV (n0 :: t)) (hp : 0 < n0) : 0 ≤ sizeV t ∧ n0 * sizeV t = sizeV (n0 :: t) := by
  have ho : arrOk (n0 :: t) (List.replicate (sizeV (n0 :: t)).toNat 0) = true := by
    unfold arrOk
    have e1 : (List.replicate (sizeV (n0 :: t)).toNat (0 : Int)).all ok = true := by
      rw [List.all_eq_true]
      intro x hx
      obtain rfl := (List.mem_replicate.1 hx).2
      decide
    rw [e1]
    simp
    omega
  obtain ⟨p0, p1, p2⟩ := tail_size ho hp
  refine ⟨p0, ?_⟩
  rw [p1]
  simp
  omega
theorem dim_bd {n0 : Int} {t : List Int} (h : 0 ≤ sizeV (n0 :: t)) : 0 ≤ n0 ∧ n0 ≤ 300 := by
  have := (sizeV_ok h).2.1
  rw [List.all_eq_true] at this
  have := this n0 (by simp)
  simpa [dimOk] using this
/-- What is taken, and what is left out, in numbers. -/
theorem take_nums {t e : List Int} {x : Int} (ho : arrOk t e = true) (hz : 0 ≤ sizeV (takeS x t e)) :
    (haveN x t e : Int) * sizeV ((vecS t e).drop 1) = ((haveN x t e * rowN (vecS t e) : Nat) : Int) ∧
    (((manyV x).toNat : Int) - (haveN x t e : Int)) * sizeV ((vecS t e).drop 1) = ((((manyV x).toNat - haveN x t e) * rowN (vecS t e) : Nat) : Int) ∧
    ((rowsN (vecS t e) : Int) - (haveN x t e : Int)) * sizeV ((vecS t e).drop 1) = (((rowsN (vecS t e) - haveN x t e) * rowN (vecS t e) : Nat) : Int) ∧
    haveN x t e * rowN (vecS t e) ≤ e.length ∧ ((manyV x).toNat - haveN x t e) * rowN (vecS t e) ≤ 300 ∧ (rowsN (vecS t e) - haveN x t e) * rowN (vecS t e) ≤ e.length ∧ (manyV x).toNat ≤ 300 ∧ haveN x t e ≤ (manyV x).toNat ∧ haveN x t e ≤ rowsN (vecS t e) ∧ -1 ≤ sizeV ((vecS t e).drop 1) ∧ sizeV ((vecS t e).drop 1) ≤ 300 := by
  obtain ⟨ov, hv0⟩ := vec_ok ho
  obtain ⟨e1, e2⟩ := rowsN_bd ov
  have eall := rows_all ov hv0
  have hm := many_nat x
  have eta := cons_eta hv0
  have hH : haveN x t e = min (manyV x).toNat (rowsN (vecS t e)) := rfl
  have hR : rowN (vecS t e) = (sizeV ((vecS t e).drop 1)).toNat := rfl
  have sb := sizeV_bd ((vecS t e).drop 1)
  unfold takeS at hz
  have hd := dim_bd hz
  have key : 0 ≤ sizeV ((vecS t e).drop 1) ∨ ((manyV x).toNat = 0 ∧ rowsN (vecS t e) = 0) := by
    by_cases h1 : 0 < manyV x
    · exact .inl (sizeV_tail hz h1).1
    · by_cases h2 : 0 < rowsN (vecS t e)
      · refine .inl ?_
        have hs := arrOk_shape ov
        rw [← eta] at hs
        exact (sizeV_tail hs (by omega)).1
      · exact .inr ⟨by omega, by omega⟩
  have hmz : (manyV x).toNat * rowN (vecS t e) ≤ 300 := by
    by_cases h1 : 0 < manyV x
    · obtain ⟨p0, p1⟩ := sizeV_tail hz h1
      have b := (sizeV_bd (manyV x :: (vecS t e).drop 1)).2
      have : (((manyV x).toNat * rowN (vecS t e) : Nat) : Int) ≤ 300 := by
        rw [Int.natCast_mul, ← hm, hR, Int.toNat_of_nonneg p0, p1]; exact b
      omega
    · have : (manyV x).toNat = 0 := by omega
      rw [this]; simp
  generalize rowsN (vecS t e) = N at *
  generalize haveN x t e = H at *
  generalize (manyV x).toNat = m at *
  have hH1 : H ≤ m := by rw [hH]; exact Nat.min_le_left _ _
  have hH2 : H ≤ N := by rw [hH]; exact Nat.min_le_right _ _
  have q1 : H * rowN (vecS t e) ≤ N * rowN (vecS t e) := Nat.mul_le_mul_right _ hH2
  have q2 : (m - H) * rowN (vecS t e) ≤ m * rowN (vecS t e) := Nat.mul_le_mul_right _ (Nat.sub_le _ _)
  have q3 : (N - H) * rowN (vecS t e) ≤ N * rowN (vecS t e) := Nat.mul_le_mul_right _ (Nat.sub_le _ _)
  refine ⟨?_, ?_, ?_, by omega, by omega, by omega, by omega, hH1, hH2, sb.1, sb.2⟩
  all_goals
    rcases key with k | ⟨k1, k2⟩
    · rw [Int.natCast_mul, hR, Int.toNat_of_nonneg k]
      try (congr 1; omega)
    · subst k1 k2
      obtain rfl : H = 0 := by omega
      simp
end Go.Proofs.Ytlbmbjgbihljhad
namespace Go.Proofs.Ytlbmbjgbihljhad
set_option linter.unusedVariables false
theorem taken_code {s d t f : List Int} (h : (takeR s d t f).1 = 0) : (arrOk s d = true ∧ arrOk t f = true) ∧ d.length = 1 ∧ 0 ≤ sizeV (takeS (d.getD 0 0) t f) ∧ (takeR s d t f).2.1 = takeS (d.getD 0 0) t f ∧ (takeR s d t f).2.2 = takeD (d.getD 0 0) t f ∧ (dropR s d t f).1 = 0 ∧ (dropR s d t f).2.2 = dropD (d.getD 0 0) t f := by
  unfold takeR at h ⊢
  rw [mkR_code] at h
  rw [h, mkR_good]
  unfold takeC at h
  by_cases q : arrOk s d = true ∧ arrOk t f = true
  · rw [if_pos q] at h
    by_cases l : d.length ≠ 1
    · rw [if_pos l] at h; cases h
    · rw [if_neg l] at h
      by_cases z : 0 ≤ sizeV (takeS (d.getD 0 0) t f)
      · have hc : oneC s d t f = 0 := by unfold oneC; rw [if_pos q, if_neg l]
        refine ⟨q, by simpa using l, z, rfl, rfl, ?_, ?_⟩
        · unfold dropR; rw [mkR_code]; exact hc
        · unfold dropR; rw [hc, mkR_good]
      · rw [if_neg z] at h; cases h
  · rw [if_neg q] at h; cases h
theorem taken_bad {s d t f : List Int} (h : (takeR s d t f).1 ≠ 0) : (takeR s d t f).2.2.length = 0 := by
  unfold takeR at h ⊢
  rw [mkR_code] at h
  rw [mkR_bad h]; rfl
/-- How many rows there are. -/
def haveV (t : List Int) : Int := if t = [] then 1 else t.getD 0 0
theorem have_rows {t f : List Int} (ho : arrOk t f = true) : (rowsN (vecS t f) : Int) = haveV t := by
  have hz := arrOk_size ho
  unfold haveV vecS rowsN
  by_cases h : t = []
  · subst h
    rw [if_pos rfl, if_pos rfl]
    simp [sizeV, prodV] at hz ⊢
    omega
  · rw [if_neg h, if_neg h]
    have := head_bd ho
    omega
theorem taken_both {t f : List Int} {x : Int} (ho : arrOk t f = true) (hz : 0 ≤ sizeV (takeS x t f)) :
    (haveV t < manyV x → (dropD x t f).length = 0) ∧ (manyV x ≤ haveV t → (0 ≤ x → takeD x t f ++ dropD x t f = f) ∧ (x < 0 → dropD x t f ++ takeD x t f = f)) := by
  obtain ⟨ov, hv0⟩ := vec_ok ho
  have eall := rows_all ov hv0
  have hr := have_rows ho
  have hm := many_nat x
  have hH : haveN x t f = min (manyV x).toNat (rowsN (vecS t f)) := rfl
  constructor
  · intro hlt
    have hN : haveN x t f = rowsN (vecS t f) := by rw [hH]; omega
    unfold dropD
    rw [hN]
    split
    · rw [List.length_drop, eall]; omega
    · simp
  · intro hle
    have hN : haveN x t f = (manyV x).toNat := by rw [hH]; omega
    constructor
    · intro h0
      unfold takeD dropD
      rw [if_pos h0, if_pos h0, hN]
      simp
    · intro h0
      unfold takeD dropD
      rw [if_neg (by omega), if_neg (by omega), hN]
      simp
end Go.Proofs.Ytlbmbjgbihljhad
namespace Go.Proofs.Ytlbmbjgbihljhad
open Go.RowKit
set_option linter.unusedVariables false
set_option linter.unusedSimpArgs false
theorem takeC_ok {s d t e : List Int} (ho : arrOk s d = true) (ho' : arrOk t e = true) (hl : d.length = 1) : takeC s d t e = if 0 ≤ sizeV (takeS (d.getD 0 0) t e) then 0 else 6 := by unfold takeC; rw [if_pos ⟨ho, ho'⟩, if_neg (by simpa using hl)]
theorem takeC_3 {s d t e : List Int} (ho : arrOk s d = true) (ho' : arrOk t e = true) (hl : ¬ d.length = 1) : takeC s d t e = 3 := by unfold takeC; rw [if_pos ⟨ho, ho'⟩, if_pos hl]
set_option maxRecDepth 20000 in
set_option maxHeartbeats 4000000 in
/-- Take. -/
theorem take_spec {s d t e : List Int} {w : World} {v u : Value} (h : ArrI w v s d) (k : ArrI w u t e) (hd : d.length ≤ 1048576) (ht : t.length ≤ 1048576) (he : e.length ≤ 1048576) :
    Calls Try.prog 12 #[v, u] w fun r w' => ∃ v', r = .returned (.tuple #[v', .int .i64 (takeR s d t e).1]) ∧ Arr w.heap.size w'.heap.size w' v' (takeR s d t e).2.1 (takeR s d t e).2.2 ∧ Below w.heap.size w w' := by
  have H : Hid (ArrI w v s d) := h
  have K : Hid (ArrI w u t e) := k
  obtain ⟨a, c, b, f, rfl, h1, h2, _, _⟩ := h
  obtain ⟨a', c', b', f', rfl, k1, k2, g1, _⟩ := k
  have H2 : Hid (Ints w b d) := h2
  have HD : Hid (d.length ≤ 1048576) := hd
  have HE : Hid (e.length ≤ 1048576) := he
  clear h1 h2 hd ht he
  by_cases ho : arrOk s d = true
  · have HO : Hid (arrOk s d = true) := ho
    by_cases ho' : arrOk t e = true
    · have HO' : Hid (arrOk t e = true) := ho'
      by_cases hl : d.length = 1
      · have n1 : ((d.length : Int) != 1) = false := by simp [hl]
        have hlt : (0 : Int) < (d.length : Int) := by omega
        obtain ⟨bx, ox, rfl, hbx, cx⟩ := H2.out.at (k := 0) (by omega)
        rw [Nat.add_zero] at cx
        have CC : Hid (∀ W, Below w.heap.size w W → W.cell? ⟨bx, ox, none⟩ = some (.int .i64 (d.getD 0 0))) := fun W h => (h.cell (p := ⟨bx, ox, none⟩) hbx).trans cx
        have ER : takeR s d t e = mkR (if 0 ≤ sizeV (takeS (d.getD 0 0) t e) then 0 else 6) (takeS (d.getD 0 0) t e) (takeD (d.getD 0 0) t e) := by unfold takeR; rw [takeC_ok ho ho' hl]
        have XB : Hid (-1000000000000 ≤ d.getD 0 0 ∧ d.getD 0 0 ≤ 1000000000000) := num_bd ho (by omega)
        rw [ER]
        clear ER cx hl
        generalize d.getD 0 0 = x at *
        obtain ⟨ov, hv0⟩ := vec_ok ho'
        obtain ⟨e1, e2⟩ := rowsN_bd ov
        have HV5 : Hid (∀ W, Below w.heap.size w W → Calls Try.prog 46 #[.agg #[.slice a' t.length c', .slice b' e.length f']] W fun r w' => ∃ v', r = .returned v' ∧ ArrI w' v' (vecS t e) e ∧ Below W.heap.size W w') := fun W hb => vec5_spec (K.out.keep hb) HE.out
        have HNUM : Hid (0 ≤ sizeV (takeS x t e) → _) := fun h => take_nums (x := x) ho' h
        have ES : takeS x t e = manyV x :: (vecS t e).drop 1 := rfl
        have HMX : Hid (∀ W, Calls Try.prog 45 #[.int .i64 x, .int .i64 (IntKind.i64.wrap (-x))] W fun r w' => r = .returned (.int .i64 ((manyV x).toNat : Int)) ∧ w' = W) := fun W => by
          have xb := XB.out
          have e : IntKind.i64.wrap (-x) = 0 - x := by rw [IntKind.wrap_i64]; omega
          rw [e, ← many_nat]
          exact max_spec x (0 - x) W
        have HMY : Hid (∀ W, Calls Try.prog 45 #[.int .i64 x, .int .i64 (-x)] W fun r w' => r = .returned (.int .i64 ((manyV x).toNat : Int)) ∧ w' = W) := fun W => by
          rw [show -x = 0 - x from by omega, ← many_nat]
          exact max_spec x (0 - x) W
        have HMN : Hid (∀ W, Calls Try.prog 48 #[.int .i64 ((manyV x).toNat : Int), .int .i64 (rowsN (vecS t e) : Int)] W fun r w' => r = .returned (.int .i64 (haveN x t e : Int)) ∧ w' = W) := fun W => by
          have e : mn ((manyV x).toNat : Int) (rowsN (vecS t e) : Int) = (haveN x t e : Int) := by unfold haveN mn; split <;> omega
          rw [← e]
          exact min_spec _ _ W
        have ED1 : Hid (0 ≤ x → takeD x t e = e.take (haveN x t e * rowN (vecS t e)) ++ List.replicate (((manyV x).toNat - haveN x t e) * rowN (vecS t e)) 0) := fun h => by unfold takeD; rw [if_pos h]
        have ED2 : Hid (¬ 0 ≤ x → takeD x t e = List.replicate (((manyV x).toNat - haveN x t e) * rowN (vecS t e)) 0 ++ e.drop ((rowsN (vecS t e) - haveN x t e) * rowN (vecS t e))) := fun h => by unfold takeD; rw [if_neg h]
        rw [many_nat] at ES
        generalize haveN x t e = G at *
        generalize rowN (vecS t e) = L at *
        generalize takeD x t e = D at *
        generalize takeS x t e = S at *
        generalize vecS t e = V at *
        generalize (manyV x).toNat = many at *
        have HV0 : Hid (V ≠ []) := hv0
        have OV : Hid (arrOk V e = true) := ov
        obtain ⟨N, hN⟩ : ∃ N, N = rowsN V := ⟨_, rfl⟩
        rw [← hN] at e1 e2 HMN ED2 HNUM
        have hn : N ≤ 300 := e1
        have xb := XB.out
        obtain ⟨R, hR⟩ : ∃ R, R = mkR (if 0 ≤ sizeV S then 0 else 6) S D := ⟨_, rfl⟩
        have RG : Hid (0 ≤ sizeV S → R = (0, S, D)) := fun h => by rw [hR, if_pos h]; exact mkR_good _ _
        have RB : Hid (¬ 0 ≤ sizeV S → R = (6, [], [])) := fun h => by rw [hR, if_neg h]; exact mkR_bad (by decide) _ _
        rw [← hR]
        clear ho ho' k1 k2 g1 e1 hN ov hv0 hR
        go_enter Try.func12, Try.ntmps12
        go_wp2_with fail
        refine (arrOk_spec (H.out.keep (bAlloc (bAlloc (bAlloc (bAlloc (Below.refl _ _) _) _) _) _)) HD.out).mono ?_
        rintro r w1 ⟨rfl, hb⟩
        have HB1 : Hid (Below w.heap.size w w1) := bTrans (bAlloc (bAlloc (bAlloc (bAlloc (Below.refl _ _) _) _) _) _) hb
        have q1 := blocks4 w (.cells #[.slice a s.length c, .slice (some ⟨bx, ox, none⟩) d.length f] 26) (.cells #[.slice a' t.length c', .slice b' e.length f'] 26) (.cells #[.slice none 0 0, .slice none 0 0] 26) (.cells #[.slice none 0 0, .slice none 0 0] 26)
        have X1 : Hid (Box w1 w.heap.size (.slice a s.length c) (.slice (some ⟨bx, ox, none⟩) d.length f) 26) := Box.keep q1.1 hb
        have Y1 : Hid (Box w1 (w.heap.size + 1) (.slice a' t.length c') (.slice b' e.length f') 26) := Box.keep q1.2.1 hb
        have R1 : Hid (Box w1 (w.heap.size + 1 + 1) (.slice none 0 0) (.slice none 0 0) 26) := Box.keep q1.2.2.1 hb
        have Z1 : Hid (Box w1 (w.heap.size + 1 + 1 + 1) (.slice none 0 0) (.slice none 0 0) 26) := Box.keep q1.2.2.2 hb
        clear hb q1
        rw [HO.out]
        have x0 := X1.out.c0
        have x1 := X1.out.c1
        have y0 := Y1.out.c0
        have y1 := Y1.out.c1
        have r0 := R1.out.c0
        have r1 := R1.out.c1
        have f0 : w1.frozen? ⟨w.heap.size + 1 + 1, 0, none⟩ = false := free_at R1.out 0
        have f1 : w1.frozen? ⟨w.heap.size + 1 + 1, 1, none⟩ = false := free_at R1.out 1
        have z0 := Z1.out.c0
        have z1 := Z1.out.c1
        go_wp2_with fail
        refine (arrOk_spec (K.out.keep HB1.out) HE.out).mono ?_
        rintro r w2 ⟨rfl, hb⟩
        have HB2 : Hid (Below w.heap.size w w2) := bTrans HB1.out hb
        have X2 : Hid (Box w2 w.heap.size (.slice a s.length c) (.slice (some ⟨bx, ox, none⟩) d.length f) 26) := X1.out.keep hb
        have Y2 : Hid (Box w2 (w.heap.size + 1) (.slice a' t.length c') (.slice b' e.length f') 26) := Y1.out.keep hb
        have R2 : Hid (Box w2 (w.heap.size + 1 + 1) (.slice none 0 0) (.slice none 0 0) 26) := R1.out.keep hb
        have Z2 : Hid (Box w2 (w.heap.size + 1 + 1 + 1) (.slice none 0 0) (.slice none 0 0) 26) := Z1.out.keep hb
        rw [HO'.out]
        clear hb
        clear x0 x1 y0 y1 r0 r1 z0 z1 f0 f1
        clear X1 Y1 R1 Z1 HB1
        have x0 := X2.out.c0
        have x1 := X2.out.c1
        have y0 := Y2.out.c0
        have y1 := Y2.out.c1
        have r0 := R2.out.c0
        have r1 := R2.out.c1
        have f0 : w2.frozen? ⟨w.heap.size + 1 + 1, 0, none⟩ = false := free_at R2.out 0
        have f1 : w2.frozen? ⟨w.heap.size + 1 + 1, 1, none⟩ = false := free_at R2.out 1
        have z0 := Z2.out.c0
        have z1 := Z2.out.c1
        have cx := CC.out _ HB2.out
        go_wp2_with (go_at_call 45; (first | refine (HMY.out _).mono ?_ | refine (HMX.out _).mono ?_); rintro r w' ⟨rfl, hw⟩; subst w')
        refine (HV5.out _ HB2.out).mono ?_
        rintro r w3 ⟨v3, rfl, hav, hb⟩
        have AV : Hid (ArrI w3 v3 V e) := hav
        obtain ⟨a3, c3, b3, f3, rfl, i3, j3, g3, g4⟩ := hav
        have J3 : Hid (Ints w3 b3 e) := j3
        have hf3 : e.length ≤ f3 := g4
        obtain ⟨tl, ct, hcut, hti⟩ := tail_cut_ne i3 HV0.out g3
        obtain ⟨bv, ov', rfl, hbv, cv⟩ := i3.at (k := 0) (List.length_pos_iff.2 HV0.out)
        rw [Nat.add_zero, e2] at cv
        have hlv : (0 : Int) < (V.length : Int) := by have := List.length_pos_iff.2 HV0.out; omega
        have HB3 : Hid (Below w2.heap.size w2 w3) := hb
        have R3 : Hid (Box w3 (w.heap.size + 1 + 1) (.slice none 0 0) (.slice none 0 0) 26) := R2.out.keep hb
        have Z3 : Hid (Box w3 (w.heap.size + 1 + 1 + 1) (.slice none 0 0) (.slice none 0 0) 26) := Z2.out.keep hb
        have L2 : Hid (w.heap.size + 1 + 1 < w2.heap.size) := R2.out.lt
        have HVL : Hid ((V.drop 1).length ≤ 1000) := by
          have := (sizeV_ok (arrOk_shape OV.out)).1
          show _ ≤ _; simp; omega
        clear hb i3 j3 g3 g4 x0 x1 y0 y1 r0 r1 z0 z1 f0 f1 cx
        generalize V.drop 1 = V' at *
        have HTI : Hid (IntsI w3 (.slice tl V'.length ct) V') := hti
        obtain ⟨tl', ct', et, gt, it⟩ := hti
        cases et
        -- the shape
        obtain ⟨a5, c5, w5, hr5, hn5, hb5⟩ := growL (newInts_alloc (w3.alloc (.cells #[.slice (some ⟨bv, ov', none⟩) V.length c3, .slice b3 e.length f3] 26)) [(many : Int)] (Nat.le_refl _) (by simp)) ((it.alloc (.cells #[.slice (some ⟨bv, ov', none⟩) V.length c3, .slice b3 e.length f3] 26)).alloc (.cells (vals [(many : Int)]) 3)) (by simp) (by have := HVL.out; simp; omega) ct
        have eZ : [(many : Int)] ++ V' = S := by rw [ES]; rfl
        rw [eZ] at hr5 hn5
        have R5 : Hid ((Builtin.append_ #[24, 24] 24 #[.slice (some ⟨w3.heap.size + 1, 0, none⟩) 1 1, .slice tl V'.length ct]).run Try.prog ((w3.alloc (.cells #[.slice (some ⟨bv, ov', none⟩) V.length c3, .slice b3 e.length f3] 26)).alloc (.cells #[.int .i64 (many : Int)] 3)) = .ok (.slice a5 S.length c5) w5) := by
          have := hr5
          simp [vals] at this
          exact this
        have P5 : Hid (Piece (w3.heap.size + 1) w5.heap.size w5 (.slice a5 S.length c5) S) := by
          have := hn5.piece
          show Piece _ _ _ _ _
          simpa using this
        have I5 : Hid (Ints w5 a5 S) := by
          obtain ⟨a6, c6, e6, i6⟩ := hn5.ints
          cases e6; exact i6
        have hb6 : Below (w3.heap.size + 1) ((w3.alloc (.cells #[.slice (some ⟨bv, ov', none⟩) V.length c3, .slice b3 e.length f3] 26)).alloc (.cells (vals [(many : Int)]) 3)) w5 := by simpa using hb5
        have Q5 : Hid (Box w5 w3.heap.size (.slice (some ⟨bv, ov', none⟩) V.length c3) (.slice b3 e.length f3) 26) := by
          show w5.heap[_]? = _
          rw [hb6.block w3.heap.size (Nat.lt_succ_self _)]
          exact heap_alloc2_old w3 _ _
        have B5 : Hid (Below w3.heap.size w3 w5) := (bAlloc (bAlloc (Below.refl w3.heap.size w3) _) _).trans (hb6.mono (Nat.le_succ _))
        have HSO : Hid (∀ W, Ints W a5 S → Calls Try.prog 47 #[.slice a5 S.length c5] W fun r w' => r = .returned (.bool (decide (0 ≤ sizeV S))) ∧ w' = W) := fun W h => ok_spec c5 h
        clear hr5 hn5 hb5 hb6 it gt eZ ES
        have q0 := Q5.out.c0
        have q1 := Q5.out.c1
        have cv5 : w5.cell? ⟨bv, ov', none⟩ = some (.int .i64 (N : Int)) := (B5.out.cell (p := ⟨bv, ov', none⟩) hbv).trans cv
        have R5b : Hid (Box w5 (w.heap.size + 1 + 1) (.slice none 0 0) (.slice none 0 0) 26) := R3.out.keep B5.out
        have Z5 : Hid (Box w5 (w.heap.size + 1 + 1 + 1) (.slice none 0 0) (.slice none 0 0) 26) := Z3.out.keep B5.out
        have BW5 : Hid (Below w.heap.size w w5) := bTrans (bTrans HB2.out HB3.out) B5.out
        clear cv
        by_cases hz : 0 ≤ sizeV S
        · obtain ⟨m1, m2, m3, m4, m5, m6, m7, m8, m9, m10, m11⟩ := HNUM.out hz
          have DZ : Hid (decide (0 ≤ sizeV S) = true) := by show _ = _; simpa using hz
          have ER : Hid (R = (0, S, D)) := RG.out hz
          have HSV : Hid (∀ W, Ints W tl V' → Calls Try.prog 49 #[.slice tl V'.length ct] W fun r w' => r = .returned (.int .i64 (sizeV V')) ∧ w' = W) := fun W h => size_spec ct h
          have IT5 : Hid (Ints w5 tl V') := by
            obtain ⟨q1, q2, q3, _, q5⟩ := HTI.out.keep B5.out
            cases q3
            exact q5
          clear hz HNUM RG RB
          generalize sizeV V' = sz at *
          generalize hF1 : (many - G) * L = F1 at *
          generalize hP1 : G * L = P1 at *
          generalize hP2 : (N - G) * L = P2 at *
          clear hF1 hP1 hP2
          have hmk : ∀ w, (Instr.makeSlice 24 (.int .i64 (F1 : Int)) (.int .i64 (F1 : Int))).run Try.prog w = .ok (.slice (some ⟨w.heap.size, 0, none⟩) F1 F1) (w.alloc (.cells (vals (List.replicate F1 0)) 3)) := fun w => make_ints F1 (by omega) w
          have hGm : (G : Int) ≤ (many : Int) := by omega
          have hm3 : (many : Int) ≤ 300 := by omega
          have hF3 : (F1 : Int) ≤ 300 := by omega
          have hP3 : (P1 : Int) ≤ 300 := by have := arrOk_len OV.out; omega
          have hP4 : (P2 : Int) ≤ 300 := by have := arrOk_len OV.out; omega
          -- the world behind the fill and the new box
          have OA : OutAt (w5.heap.size + 1) (w5.alloc (.cells (vals (List.replicate F1 0)) 3)) ((w5.alloc (.cells (vals (List.replicate F1 0)) 3)).alloc (.cells #[.slice a5 S.length c5, .slice none 0 0] 26)) (.slice a5 S.length c5) none 0 0 [] := by
            have := outAt_new (w := w5.alloc (.cells (vals (List.replicate F1 0)) 3)) (sv := .slice a5 S.length c5)
            simpa using this
          have PF : Piece w5.heap.size (w5.heap.size + 1) (w5.alloc (.cells (vals (List.replicate F1 0)) 3)) (.slice (some ⟨w5.heap.size, 0, none⟩) F1 F1) (List.replicate F1 0) := by
            have := OwnInts.piece (ownInts_new w5 (List.replicate F1 0)) (B := w5.heap.size) (C := w5.heap.size + 1) (Nat.le_refl _) (Nat.lt_succ_self _) F1
            simpa using this
          have B56 : Hid (Below w5.heap.size w5 ((w5.alloc (.cells (vals (List.replicate F1 0)) 3)).alloc (.cells #[.slice a5 S.length c5, .slice none 0 0] 26))) := bAlloc (bAlloc (Below.refl _ _) _) _
          have PS : Hid (Piece (w3.heap.size + 1) w5.heap.size (w5.alloc (.cells (vals (List.replicate F1 0)) 3)) (.slice a5 S.length c5) S) := P5.out.keep (bAlloc (Below.refl _ _) _)
          have NF : Hid (NewInts w5.heap.size (w5.alloc (.cells (vals (List.replicate F1 0)) 3)) (.slice (some ⟨w5.heap.size, 0, none⟩) F1 F1) (List.replicate F1 0)) := by
            have := newInts_alloc w5 (List.replicate F1 0) (Nat.le_refl _) (by simp; omega)
            show NewInts _ _ _ _
            simpa using this
          generalize vals (List.replicate F1 0) = FA at *
          by_cases hx : 0 ≤ x
          · obtain ⟨a7, c7, hcut2, i7⟩ := ints_upto (M := P1) J3.out hf3 (by omega)
            have hl7 : (e.take P1).length = P1 := by simp; omega
            generalize hE : (w5.alloc (.cells (FA) 3)).alloc (.cells #[.slice a5 S.length c5, .slice none 0 0] 26) = E6 at OA B56
            obtain ⟨a8, c8, w8, hr8, hn8, hb8⟩ := growL (newInts_alloc E6 [] (B := w5.heap.size + 1 + 1) OA.box.lt (by simp)) (((i7.keep B5.out).keep B56.out).alloc (.cells (vals []) 3)) (by have := OA.box.lt; simp; omega) (by rw [hl7]; have := arrOk_len OV.out; simp; omega) c7
            have PF8 : Piece w5.heap.size (w5.heap.size + 1) w8 (.slice (some ⟨w5.heap.size, 0, none⟩) F1 F1) (List.replicate F1 0) := by
              have q : Piece w5.heap.size (w5.heap.size + 1) E6 (.slice (some ⟨w5.heap.size, 0, none⟩) F1 F1) (List.replicate F1 0) := by rw [← hE]; exact PF.keep (bAlloc (Below.refl _ _) _)
              exact (q.keep (bAlloc (Below.refl _ _) _)).belowC hb8 (by omega)
            have IF8 : Ints w8 (some ⟨w5.heap.size, 0, none⟩) (List.replicate F1 0) := by
              obtain ⟨q1, q2, q3, q4⟩ := PF8.ints
              rw [(Value.slice.inj q3).1]; exact q4
            have hB8 : w5.heap.size + 1 + 1 ≤ w8.heap.size := by have := hb8.size; have := OA.box.lt; simp at *; omega
            obtain ⟨a9, c9, w9, hr9, hn9, hb9⟩ := growL hn8 IF8 hB8 (by have := arrOk_len OV.out; simp; omega) F1
            have ED : D = [] ++ e.take P1 ++ List.replicate F1 0 := by rw [ED1.out hx]; simp
            rw [← ED] at hr9 hn9
            simp only [List.nil_append, hl7, List.length_replicate] at hr8 hr9
            subst hE
            have R8 : Hid ((Builtin.append_ #[24, 24] 24 #[.slice (some ⟨w5.heap.size + 1 + 1, 0, none⟩) 0 0, .slice a7 P1 c7]).run Try.prog (((w5.alloc (.cells (FA) 3)).alloc (.cells #[.slice a5 S.length c5, .slice none 0 0] 26)).alloc (.cells #[] 3)) = .ok (.slice a8 P1 c8) w8) := by
              have := hr8
              simp [vals] at this
              exact this
            have R9 : Hid ((Builtin.append_ #[24, 24] 24 #[.slice a8 P1 c8, .slice (some ⟨w5.heap.size, 0, none⟩) F1 F1]).run Try.prog w8 = .ok (.slice a9 D.length c9) w9) := hr9
            have B69 : Hid (Below (w5.heap.size + 1 + 1) ((w5.alloc (.cells (FA) 3)).alloc (.cells #[.slice a5 S.length c5, .slice none 0 0] 26)) w9) := by
              have q := (bAlloc (Below.refl ((w5.alloc (.cells (FA) 3)).alloc (.cells #[.slice a5 S.length c5, .slice none 0 0] 26)).heap.size ((w5.alloc (.cells (FA) 3)).alloc (.cells #[.slice a5 S.length c5, .slice none 0 0] 26))) (.cells (vals []) 3)).mono OA.box.lt
              exact (q.trans hb8).trans hb9
            have O10 : Hid (OutAt (w5.heap.size + 1) (w5.alloc (.cells (FA) 3)) (w9.setCell ⟨w5.heap.size + 1, 1, none⟩ (.slice a9 D.length c9)) (.slice a5 S.length c5) a9 c9 D.length D) := OA.set hn9 B69.out rfl
            have b9 := OA.box' B69.out
            have n1' := b9.c1
            have n2' : w9.frozen? ⟨w5.heap.size + 1, 1, none⟩ = false := free_at b9 1
            have k1' : (((w5.alloc (.cells (FA) 3)).alloc (.cells #[.slice a5 S.length c5, .slice none 0 0] 26)).alloc (.cells #[] 3)).cell? ⟨w3.heap.size, 1, none⟩ = some (.slice b3 e.length f3) := ((Q5.out.keep B56.out).keep (bAlloc (Below.refl _ _) _)).c1
            have B59 : Hid (Below w5.heap.size w5 w9) := B56.out.trans (B69.out.mono (by omega))
            have L5 : Hid (w3.heap.size < w5.heap.size) := Q5.out.lt
            have L35 : Hid (w2.heap.size ≤ w3.heap.size) := HB3.out.size
            have R10 : Hid (Box (w9.setCell ⟨w5.heap.size + 1, 1, none⟩ (.slice a9 D.length c9)) (w.heap.size + 1 + 1) (.slice none 0 0) (.slice none 0 0) 26) := (R5b.out.keep B59.out).win (win_setCell _ _ _ _) (.inl (by have := L2.out; have := L5.out; have := L35.out; omega))
            clear hr8 hr9 hn8 hn9 hb8 hb9 b9 PF PF8 IF8 hB8 i7 OA ED
            generalize hW10 : w9.setCell ⟨w5.heap.size + 1, 1, none⟩ (.slice a9 D.length c9) = w10 at *
            obtain ⟨o0, o1, _, _⟩ := O10.out.cells
            have r0 := R10.out.c0
            have r1 := R10.out.c1
            have f0 : w10.frozen? ⟨w.heap.size + 1 + 1, 0, none⟩ = false := free_at R10.out 0
            have f1 : w10.frozen? ⟨w.heap.size + 1 + 1, 1, none⟩ = false := free_at R10.out 1
            have BW10 : Hid (Below w.heap.size w w10) := by
              have := L2.out; have := L5.out; have := L35.out
              rw [← hW10]; exact below_setCell (bTrans BW5.out B59.out) (by omega) _ _
            have HA : Hid (Arr w2.heap.size w10.heap.size w10 (.agg #[.slice a5 S.length c5, .slice a9 D.length c9]) S D) := (O10.out.arr PS.out (Nat.le_succ _) (by have := L5.out; omega)).mono (by have := L35.out; omega) (Nat.le_refl _)
            have HR : Hid (((w10.setCell ⟨w.heap.size + 1 + 1, 0, none⟩ (.slice a5 S.length c5)).setCell ⟨w.heap.size + 1 + 1, 1, none⟩ (.slice a9 D.length c9)).heap[w.heap.size + 1 + 1]? = some (.cells #[.slice a5 S.length c5, .slice a9 D.length c9] 26 (0, 0))) := arr_stored R10.out
            go_wp2_with (at_builtin; refine wpList_append_ty rfl _ _ 24 24 rfl (.slice (some ⟨w3.heap.size + 1, 0, none⟩) 1 1) (.slice tl V'.length ct) _ rfl rfl R5.out ?_)
            refine (HSO.out _ I5.out).mono ?_
            rintro r w' ⟨rfl, hw⟩
            subst w'
            rw [DZ.out]
            go_wp2_with fail
            refine (HMN.out _).mono ?_
            rintro r w' ⟨rfl, hw⟩
            subst w'
            go_wp2_with fail
            refine (HSV.out _ IT5.out).mono ?_
            rintro r w' ⟨rfl, hw⟩
            subst w'
            go_wp2_with (first | (at_builtin; refine wpList_append_ty rfl _ _ 24 24 rfl (.slice (some ⟨w5.heap.size + 1 + 1, 0, none⟩) 0 0) (.slice a7 P1 c7) _ rfl rfl R8.out ?_) | (at_builtin; refine wpList_append_ty rfl _ _ 24 24 rfl (.slice a8 P1 c8) (.slice (some ⟨w5.heap.size, 0, none⟩) F1 F1) _ rfl rfl R9.out ?_))
            refine bodyPost_ret (results_arr_tmp Try.results12 _ _ (w.heap.size + 1 + 1) _ _ rfl HR.out) rfl ?_
            refine ⟨_, by rw [ER.out]; rfl, ?_, below_setCell (below_setCell BW10.out (by omega) _ _) (by omega) _ _⟩
            rw [ER.out]
            have L := L2.out
            exact ((HA.out.setCell L _ _).setCell L _ _).mono HB2.out.size (by simp only [size_setCell]; omega)
          · obtain ⟨a7, c7, hcut2, i7⟩ := ints_from (M := P2) J3.out hf3 (by omega)
            have ED : List.replicate F1 0 ++ e.drop P2 = D := (ED2.out (by omega)).symm
            have LD : Hid (F1 + (e.drop P2).length ≤ 1048576) := by have := arrOk_len OV.out; show _ ≤ _; simp; omega
            have hE6 : Below w5.heap.size w5 ((w5.alloc (.cells FA 3)).alloc (.cells #[.slice a5 S.length c5, .slice none 0 0] 26)).drew := B56.out.drew
            obtain ⟨a8, c8, w8, hr8, hn8, hg8, hb8⟩ := growG (NF.out.keep (Below.drew (bAlloc (Below.refl _ _) (.cells #[.slice a5 S.length c5, .slice none 0 0] 26)))) ((i7.keep B5.out).keep hE6) (by have := OA.box.lt; show _ ≤ ((w5.alloc (.cells FA 3)).alloc (.cells #[.slice a5 S.length c5, .slice none 0 0] 26)).heap.size; omega) (by have := LD.out; simp at this ⊢; omega) c7
            rw [ED] at hr8 hn8 hb8
            generalize (e.drop P2).length = Q2 at *
            have R8 : Hid ((Builtin.append_ #[24, 24] 24 #[.slice (some ⟨w5.heap.size, 0, none⟩) F1 F1, .slice a7 Q2 c7]).run Try.prog ((w5.alloc (.cells FA 3)).alloc (.cells #[.slice a5 S.length c5, .slice none 0 0] 26)).drew = .ok (.slice a8 D.length c8) w8) := hr8
            have L5 : Hid (w3.heap.size < w5.heap.size) := Q5.out.lt
            have L35 : Hid (w2.heap.size ≤ w3.heap.size) := HB3.out.size
            have W8 : Win w5.heap.size (w5.heap.size + 1) ((w5.alloc (.cells FA 3)).alloc (.cells #[.slice a5 S.length c5, .slice none 0 0] 26)) w8 := ⟨hg8.os, hg8.tape, hg8.output, hg8.size, fun k hk hd => hg8.block k hk (fun e => by have e' : k = w5.heap.size := Option.some.inj e; omega)⟩
            have b8 : Box w8 (w5.heap.size + 1) (.slice a5 S.length c5) (.slice none 0 0) 26 := OA.box.win W8 (.inr (Nat.le_refl _))
            have P8 : Piece (w3.heap.size + 1) w5.heap.size w8 (.slice a5 S.length c5) S := (PS.out.keep (bAlloc (Below.refl _ _) _)).win W8 (.inl (Nat.le_refl _))
            have B58 : Hid (Below w5.heap.size w5 w8) := B56.out.trans ⟨W8.os, W8.tape, W8.output, W8.size, fun k hk => W8.block k (Nat.lt_of_lt_of_le hk B56.out.size) (.inl hk)⟩
            have n1' := b8.c1
            have n2' : w8.frozen? ⟨w5.heap.size + 1, 1, none⟩ = false := free_at b8 1
            have Q6 : Hid (Box ((w5.alloc (.cells FA 3)).alloc (.cells #[.slice a5 S.length c5, .slice none 0 0] 26)) w3.heap.size (.slice (some ⟨bv, ov', none⟩) V.length c3) (.slice b3 e.length f3) 26) := Q5.out.keep B56.out
            have k0' := Q6.out.c0
            have k1' := Q6.out.c1
            have k2' : ((w5.alloc (.cells FA 3)).alloc (.cells #[.slice a5 S.length c5, .slice none 0 0] 26)).cell? ⟨bv, ov', none⟩ = some (.int .i64 (N : Int)) := (B56.out.cell (p := ⟨bv, ov', none⟩) (Nat.lt_of_lt_of_le hbv B5.out.size)).trans cv5
            have hlN : 0 < V.length := List.length_pos_iff.2 HV0.out
            have hNG : (G : Int) ≤ (N : Int) := by omega
            have hN3 : (N : Int) ≤ 300 := by omega
            have eW1 : IntKind.i64.wrap ((N : Int) - (G : Int)) = (N : Int) - (G : Int) := by rw [IntKind.wrap_i64]; omega
            have eW2 : IntKind.i64.wrap (P2 : Int) = (P2 : Int) := by rw [IntKind.wrap_i64]; omega
            have N10 : NewInts w5.heap.size (w8.setCell ⟨w5.heap.size + 1, 1, none⟩ (.slice a8 D.length c8)) (.slice a8 D.length c8) D := by
              refine World.ownsRow.kept (row := some (w5.heap.size + 1)) hn8 ⟨rfl, rfl, rfl, by rw [size_setCell]; exact Nat.le_refl _, fun k hk hne => (win_setCell w8 (w5.heap.size + 1) 1 _).block k hk (by have : k ≠ w5.heap.size + 1 := fun e => hne (by rw [e]); omega)⟩ (.inr ?_)
              rcases hb8 with q | q
              · rw [q]; simp [Value.ownBlock]
              · rw [q]
                intro e
                have e' := Option.some.inj e
                have : ((w5.alloc (.cells FA 3)).alloc (.cells #[.slice a5 S.length c5, .slice none 0 0] 26)).drew.heap.size = w5.heap.size + 1 + 1 := by show ((w5.alloc (.cells FA 3)).alloc (.cells #[.slice a5 S.length c5, .slice none 0 0] 26)).heap.size = _; simp
                omega
            have b10 : Box (w8.setCell ⟨w5.heap.size + 1, 1, none⟩ (.slice a8 D.length c8)) (w5.heap.size + 1) (.slice a5 S.length c5) (.slice a8 D.length c8) 26 := by
              have := heap_setCell_same w8 (w5.heap.size + 1) 1 _ _ (.slice a8 D.length c8) b8
              unfold Box; simpa using this
            have P10 := P8.win (win_setCell w8 (w5.heap.size + 1) 1 (.slice a8 D.length c8)) (.inl (by omega))
            have R10 : Hid (Box (w8.setCell ⟨w5.heap.size + 1, 1, none⟩ (.slice a8 D.length c8)) (w.heap.size + 1 + 1) (.slice none 0 0) (.slice none 0 0) 26) := (R5b.out.keep B58.out).win (win_setCell _ _ _ _) (.inl (by have := L2.out; have := L5.out; have := L35.out; omega))
            have j0' := (Q5.out.keep B58.out).c0
            have j1' := (Q5.out.keep B58.out).c1
            have j2' : w8.cell? ⟨bv, ov', none⟩ = some (.int .i64 (N : Int)) := (B58.out.cell (p := ⟨bv, ov', none⟩) (Nat.lt_of_lt_of_le hbv B5.out.size)).trans cv5
            have B5a : Below w5.heap.size w5 (w8.setCell ⟨w5.heap.size + 1, 1, none⟩ (.slice a8 D.length c8)) := below_setCell B58.out (Nat.le_succ _) _ _
            have l0' := (Q5.out.keep B5a).c0
            have l1' := (Q5.out.keep B5a).c1
            have l2' : (w8.setCell ⟨w5.heap.size + 1, 1, none⟩ (.slice a8 D.length c8)).cell? ⟨bv, ov', none⟩ = some (.int .i64 (N : Int)) := (B5a.cell (p := ⟨bv, ov', none⟩) (Nat.lt_of_lt_of_le hbv B5.out.size)).trans cv5
            clear hr8 hn8 hb8 hg8 b8 PF i7 OA ED W8 hE6 B5a
            generalize hW10 : w8.setCell ⟨w5.heap.size + 1, 1, none⟩ (.slice a8 D.length c8) = w10 at *
            have o0 := b10.c0
            have o1 := b10.c1
            have r0 := R10.out.c0
            have r1 := R10.out.c1
            have f0 : w10.frozen? ⟨w.heap.size + 1 + 1, 0, none⟩ = false := free_at R10.out 0
            have f1 : w10.frozen? ⟨w.heap.size + 1 + 1, 1, none⟩ = false := free_at R10.out 1
            have BW10 : Hid (Below w.heap.size w w10) := by
              have := L2.out; have := L5.out; have := L35.out
              rw [← hW10]; exact below_setCell (bTrans BW5.out B58.out) (by omega) _ _
            have HA : Hid (Arr w2.heap.size w10.heap.size w10 (.agg #[.slice a5 S.length c5, .slice a8 D.length c8]) S D) := by
              have := L5.out; have := L35.out
              have p2 := N10.piece
              have hz := b10.lt
              exact ⟨_, _, rfl, P10.mono (by omega) (by omega), p2.mono (by omega) (Nat.le_refl _), P10.apart p2 (.inl (Nat.le_refl _))⟩
            have HR : Hid (((w10.setCell ⟨w.heap.size + 1 + 1, 0, none⟩ (.slice a5 S.length c5)).setCell ⟨w.heap.size + 1 + 1, 1, none⟩ (.slice a8 D.length c8)).heap[w.heap.size + 1 + 1]? = some (.cells #[.slice a5 S.length c5, .slice a8 D.length c8] 26 (0, 0))) := arr_stored R10.out
            clear N10 P10 P8 b10
            go_wp2_with (at_builtin; refine wpList_append_ty rfl _ _ 24 24 rfl (.slice (some ⟨w3.heap.size + 1, 0, none⟩) 1 1) (.slice tl V'.length ct) _ rfl rfl R5.out ?_)
            refine (HSO.out _ I5.out).mono ?_
            rintro r w' ⟨rfl, hw⟩
            subst w'
            rw [DZ.out]
            go_wp2_with fail
            refine (HMN.out _).mono ?_
            rintro r w' ⟨rfl, hw⟩
            subst w'
            go_wp2_with fail
            refine (HSV.out _ IT5.out).mono ?_
            rintro r w' ⟨rfl, hw⟩
            subst w'
            go_wp2_with fail
            go_region_held3 (fun w' => w'.cell? ⟨w3.heap.size, 0, none⟩ = some (.slice (some ⟨bv, ov', none⟩) V.length c3) ∧ w'.cell? ⟨w3.heap.size, 1, none⟩ = some (.slice b3 e.length f3) ∧ w'.cell? ⟨bv, ov', none⟩ = some (.int .i64 (N : Int)))
              (first | (refine ⟨?_, ?_, ?_⟩ <;> (first | with_reducible assumption | simp only [*])) | exact ⟨k0', k1', k2'⟩)
              (refine step_append_ty (by rfl) (.tmp 83) (.tmp 94) 24 24 (by rfl) (.slice (some ⟨w5.heap.size, 0, none⟩) F1 F1) (.slice a7 Q2 c7) _ (by rfl) (by rfl) R8.out ?_)
            all_goals
              go_wp2
              refine bodyPost_ret (results_arr_tmp Try.results12 _ _ (w.heap.size + 1 + 1) _ _ rfl HR.out) rfl ?_
              refine ⟨_, by rw [ER.out]; rfl, ?_, below_setCell (below_setCell BW10.out (by omega) _ _) (by omega) _ _⟩
              rw [ER.out]
              have L := L2.out
              exact ((HA.out.setCell L _ _).setCell L _ _).mono HB2.out.size (by simp only [size_setCell]; omega)
        · have DZ : Hid (decide (0 ≤ sizeV S) = false) := by show _ = _; simpa using hz
          have ER : Hid (R = (6, [], [])) := RB.out (by omega)
          have z0 := Z5.out.c0
          have z1 := Z5.out.c1
          have r0 := R5b.out.c0
          have r1 := R5b.out.c1
          have f0 : w5.frozen? ⟨w.heap.size + 1 + 1, 0, none⟩ = false := free_at R5b.out 0
          have f1 : w5.frozen? ⟨w.heap.size + 1 + 1, 1, none⟩ = false := free_at R5b.out 1
          have HR : Hid (((w5.setCell ⟨w.heap.size + 1 + 1, 0, none⟩ (.slice none 0 0)).setCell ⟨w.heap.size + 1 + 1, 1, none⟩ (.slice none 0 0)).heap[w.heap.size + 1 + 1]? = some (.cells #[.slice none 0 0, .slice none 0 0] 26 (0, 0))) := arr_stored R5b.out
          clear hz RG RB HNUM
          go_wp2_with (first | (at_builtin; refine wpList_append_ty rfl _ _ 24 24 rfl (.slice (some ⟨w3.heap.size + 1, 0, none⟩) 1 1) (.slice tl V'.length ct) _ rfl rfl R5.out ?_) | (go_at_call 47; refine (HSO.out _ I5.out).mono ?_; rintro r w' ⟨rfl, hw⟩; subst w'; rw [DZ.out]))
          refine bodyPost_ret (results_arr_tmp Try.results12 _ _ (w.heap.size + 1 + 1) _ _ rfl HR.out) rfl ?_
          exact ⟨_, by rw [ER.out]; rfl, by rw [ER.out]; exact arr_zero _ _ _, below_setCell (below_setCell BW5.out (by omega) _ _) (by omega) _ _⟩
      · have n1 : ((d.length : Int) != 1) = true := by simp; omega
        have ER : takeR s d t e = (3, [], []) := by unfold takeR; rw [takeC_3 ho ho' hl]; rfl
        rw [ER]
        clear ER ho ho' hl k1 k2 g1
        go_enter Try.func12, Try.ntmps12
        go_wp2_with fail
        refine (arrOk_spec (H.out.keep (bAlloc (bAlloc (bAlloc (bAlloc (Below.refl _ _) _) _) _) _)) HD.out).mono ?_
        rintro r w1 ⟨rfl, hb⟩
        have HB1 : Hid (Below w.heap.size w w1) := bTrans (bAlloc (bAlloc (bAlloc (bAlloc (Below.refl _ _) _) _) _) _) hb
        have q1 := blocks4 w (.cells #[.slice a s.length c, .slice b d.length f] 26) (.cells #[.slice a' t.length c', .slice b' e.length f'] 26) (.cells #[.slice none 0 0, .slice none 0 0] 26) (.cells #[.slice none 0 0, .slice none 0 0] 26)
        have X1 : Hid (Box w1 w.heap.size (.slice a s.length c) (.slice b d.length f) 26) := Box.keep q1.1 hb
        have Y1 : Hid (Box w1 (w.heap.size + 1) (.slice a' t.length c') (.slice b' e.length f') 26) := Box.keep q1.2.1 hb
        have R1 : Hid (Box w1 (w.heap.size + 1 + 1) (.slice none 0 0) (.slice none 0 0) 26) := Box.keep q1.2.2.1 hb
        have Z1 : Hid (Box w1 (w.heap.size + 1 + 1 + 1) (.slice none 0 0) (.slice none 0 0) 26) := Box.keep q1.2.2.2 hb
        clear hb q1
        rw [HO.out]
        have x0 := X1.out.c0
        have x1 := X1.out.c1
        have y0 := Y1.out.c0
        have y1 := Y1.out.c1
        have r0 := R1.out.c0
        have r1 := R1.out.c1
        have f0 : w1.frozen? ⟨w.heap.size + 1 + 1, 0, none⟩ = false := free_at R1.out 0
        have f1 : w1.frozen? ⟨w.heap.size + 1 + 1, 1, none⟩ = false := free_at R1.out 1
        have z0 := Z1.out.c0
        have z1 := Z1.out.c1
        go_wp2_with fail
        refine (arrOk_spec (K.out.keep HB1.out) HE.out).mono ?_
        rintro r w2 ⟨rfl, hb⟩
        have HB2 : Hid (Below w.heap.size w w2) := bTrans HB1.out hb
        have X2 : Hid (Box w2 w.heap.size (.slice a s.length c) (.slice b d.length f) 26) := X1.out.keep hb
        have Y2 : Hid (Box w2 (w.heap.size + 1) (.slice a' t.length c') (.slice b' e.length f') 26) := Y1.out.keep hb
        have R2 : Hid (Box w2 (w.heap.size + 1 + 1) (.slice none 0 0) (.slice none 0 0) 26) := R1.out.keep hb
        have Z2 : Hid (Box w2 (w.heap.size + 1 + 1 + 1) (.slice none 0 0) (.slice none 0 0) 26) := Z1.out.keep hb
        rw [HO'.out]
        clear hb
        clear x0 x1 y0 y1 r0 r1 z0 z1 f0 f1
        clear X1 Y1 R1 Z1 HB1
        have x0 := X2.out.c0
        have x1 := X2.out.c1
        have y0 := Y2.out.c0
        have y1 := Y2.out.c1
        have r0 := R2.out.c0
        have r1 := R2.out.c1
        have f0 : w2.frozen? ⟨w.heap.size + 1 + 1, 0, none⟩ = false := free_at R2.out 0
        have f1 : w2.frozen? ⟨w.heap.size + 1 + 1, 1, none⟩ = false := free_at R2.out 1
        have z0 := Z2.out.c0
        have z1 := Z2.out.c1
        have HR : Hid (((w2.setCell ⟨w.heap.size + 1 + 1, 0, none⟩ (.slice none 0 0)).setCell ⟨w.heap.size + 1 + 1, 1, none⟩ (.slice none 0 0)).heap[w.heap.size + 1 + 1]? = some (.cells #[.slice none 0 0, .slice none 0 0] 26 (0, 0))) := arr_stored R2.out
        go_wp2
        refine bodyPost_ret (results_arr_tmp Try.results12 _ _ (w.heap.size + 1 + 1) _ _ rfl HR.out) rfl ?_
        exact ⟨_, rfl, arr_zero _ _ _, below_setCell (below_setCell HB2.out (by omega) _ _) (by omega) _ _⟩
    · have HO' : Hid (arrOk t e = false) := by show _ = _; simpa using ho'
      have ER : takeR s d t e = (1, [], []) := by unfold takeR; rw [show takeC s d t e = 1 from by unfold takeC; rw [if_neg (fun q => ho' q.2)]]; rfl
      rw [ER]
      clear ER ho ho' k1 k2 g1
      go_enter Try.func12, Try.ntmps12
      go_wp2_with fail
      refine (arrOk_spec (H.out.keep (bAlloc (bAlloc (bAlloc (bAlloc (Below.refl _ _) _) _) _) _)) HD.out).mono ?_
      rintro r w1 ⟨rfl, hb⟩
      have HB1 : Hid (Below w.heap.size w w1) := bTrans (bAlloc (bAlloc (bAlloc (bAlloc (Below.refl _ _) _) _) _) _) hb
      have q1 := blocks4 w (.cells #[.slice a s.length c, .slice b d.length f] 26) (.cells #[.slice a' t.length c', .slice b' e.length f'] 26) (.cells #[.slice none 0 0, .slice none 0 0] 26) (.cells #[.slice none 0 0, .slice none 0 0] 26)
      have X1 : Hid (Box w1 w.heap.size (.slice a s.length c) (.slice b d.length f) 26) := Box.keep q1.1 hb
      have Y1 : Hid (Box w1 (w.heap.size + 1) (.slice a' t.length c') (.slice b' e.length f') 26) := Box.keep q1.2.1 hb
      have R1 : Hid (Box w1 (w.heap.size + 1 + 1) (.slice none 0 0) (.slice none 0 0) 26) := Box.keep q1.2.2.1 hb
      have Z1 : Hid (Box w1 (w.heap.size + 1 + 1 + 1) (.slice none 0 0) (.slice none 0 0) 26) := Box.keep q1.2.2.2 hb
      clear hb q1
      rw [HO.out]
      have x0 := X1.out.c0
      have x1 := X1.out.c1
      have y0 := Y1.out.c0
      have y1 := Y1.out.c1
      have r0 := R1.out.c0
      have r1 := R1.out.c1
      have f0 : w1.frozen? ⟨w.heap.size + 1 + 1, 0, none⟩ = false := free_at R1.out 0
      have f1 : w1.frozen? ⟨w.heap.size + 1 + 1, 1, none⟩ = false := free_at R1.out 1
      have z0 := Z1.out.c0
      have z1 := Z1.out.c1
      go_wp2_with fail
      refine (arrOk_spec (K.out.keep HB1.out) HE.out).mono ?_
      rintro r w2 ⟨rfl, hb⟩
      have HB2 : Hid (Below w.heap.size w w2) := bTrans HB1.out hb
      have X2 : Hid (Box w2 w.heap.size (.slice a s.length c) (.slice b d.length f) 26) := X1.out.keep hb
      have Y2 : Hid (Box w2 (w.heap.size + 1) (.slice a' t.length c') (.slice b' e.length f') 26) := Y1.out.keep hb
      have R2 : Hid (Box w2 (w.heap.size + 1 + 1) (.slice none 0 0) (.slice none 0 0) 26) := R1.out.keep hb
      have Z2 : Hid (Box w2 (w.heap.size + 1 + 1 + 1) (.slice none 0 0) (.slice none 0 0) 26) := Z1.out.keep hb
      rw [HO'.out]
      clear hb
      clear x0 x1 y0 y1 r0 r1 z0 z1 f0 f1
      clear X1 Y1 R1 Z1 HB1
      have x0 := X2.out.c0
      have x1 := X2.out.c1
      have y0 := Y2.out.c0
      have y1 := Y2.out.c1
      have r0 := R2.out.c0
      have r1 := R2.out.c1
      have f0 : w2.frozen? ⟨w.heap.size + 1 + 1, 0, none⟩ = false := free_at R2.out 0
      have f1 : w2.frozen? ⟨w.heap.size + 1 + 1, 1, none⟩ = false := free_at R2.out 1
      have z0 := Z2.out.c0
      have z1 := Z2.out.c1
      have HR : Hid (((w2.setCell ⟨w.heap.size + 1 + 1, 0, none⟩ (.slice none 0 0)).setCell ⟨w.heap.size + 1 + 1, 1, none⟩ (.slice none 0 0)).heap[w.heap.size + 1 + 1]? = some (.cells #[.slice none 0 0, .slice none 0 0] 26 (0, 0))) := arr_stored R2.out
      go_wp2
      refine bodyPost_ret (results_arr_tmp Try.results12 _ _ (w.heap.size + 1 + 1) _ _ rfl HR.out) rfl ?_
      exact ⟨_, rfl, arr_zero _ _ _, below_setCell (below_setCell HB2.out (by omega) _ _) (by omega) _ _⟩
  · have HO : Hid (arrOk s d = false) := by show _ = _; simpa using ho
    have ER : takeR s d t e = (1, [], []) := by unfold takeR; rw [show takeC s d t e = 1 from by unfold takeC; rw [if_neg (fun q => ho q.1)]]; rfl
    rw [ER]
    clear ER ho k1 k2 g1
    go_enter Try.func12, Try.ntmps12
    go_wp2_with fail
    refine (arrOk_spec (H.out.keep (bAlloc (bAlloc (bAlloc (bAlloc (Below.refl _ _) _) _) _) _)) HD.out).mono ?_
    rintro r w1 ⟨rfl, hb⟩
    have HB1 : Hid (Below w.heap.size w w1) := bTrans (bAlloc (bAlloc (bAlloc (bAlloc (Below.refl _ _) _) _) _) _) hb
    have q1 := blocks4 w (.cells #[.slice a s.length c, .slice b d.length f] 26) (.cells #[.slice a' t.length c', .slice b' e.length f'] 26) (.cells #[.slice none 0 0, .slice none 0 0] 26) (.cells #[.slice none 0 0, .slice none 0 0] 26)
    have X1 : Hid (Box w1 w.heap.size (.slice a s.length c) (.slice b d.length f) 26) := Box.keep q1.1 hb
    have Y1 : Hid (Box w1 (w.heap.size + 1) (.slice a' t.length c') (.slice b' e.length f') 26) := Box.keep q1.2.1 hb
    have R1 : Hid (Box w1 (w.heap.size + 1 + 1) (.slice none 0 0) (.slice none 0 0) 26) := Box.keep q1.2.2.1 hb
    have Z1 : Hid (Box w1 (w.heap.size + 1 + 1 + 1) (.slice none 0 0) (.slice none 0 0) 26) := Box.keep q1.2.2.2 hb
    clear hb q1
    rw [HO.out]
    have x0 := X1.out.c0
    have x1 := X1.out.c1
    have y0 := Y1.out.c0
    have y1 := Y1.out.c1
    have r0 := R1.out.c0
    have r1 := R1.out.c1
    have f0 : w1.frozen? ⟨w.heap.size + 1 + 1, 0, none⟩ = false := free_at R1.out 0
    have f1 : w1.frozen? ⟨w.heap.size + 1 + 1, 1, none⟩ = false := free_at R1.out 1
    have z0 := Z1.out.c0
    have z1 := Z1.out.c1
    have HR : Hid (((w1.setCell ⟨w.heap.size + 1 + 1, 0, none⟩ (.slice none 0 0)).setCell ⟨w.heap.size + 1 + 1, 1, none⟩ (.slice none 0 0)).heap[w.heap.size + 1 + 1]? = some (.cells #[.slice none 0 0, .slice none 0 0] 26 (0, 0))) := arr_stored R1.out
    go_wp2
    refine bodyPost_ret (results_arr_tmp Try.results12 _ _ (w.heap.size + 1 + 1) _ _ rfl HR.out) rfl ?_
    exact ⟨_, rfl, arr_zero _ _ _, below_setCell (below_setCell HB1.out (by omega) _ _) (by omega) _ _⟩
end Go.Proofs.Ytlbmbjgbihljhad
