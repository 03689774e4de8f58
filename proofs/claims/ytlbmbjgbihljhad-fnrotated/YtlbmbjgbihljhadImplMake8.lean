/-
  Walks: the program's Rotate.
-/
import Derived.Test.YtlbmbjgbihljhadImplMake5
import Derived.Test.YtlbmbjgbihljhadImplMake1
import Derived.Test.YtlbmbjgbihljhadTwos
namespace Go.Proofs.Ytlbmbjgbihljhad
open Go.RowKit
set_option linter.unusedVariables false
set_option linter.unusedSimpArgs false
set_option maxHeartbeats 1000000 in
/-- Rotate's closure. -/
theorem rotate1_impl {N M z : Int} {k o o' : Nat} {W : World} (h : W.cell? ⟨o, 0, none⟩ = some (.int .i64 M)) (h' : W.cell? ⟨o', 0, none⟩ = some (.int .i64 N)) (h0 : 0 ≤ M) (h1 : M ≤ 300) (hN : N ≠ 0) (hk : (k : Int) ≤ 300) (hz : Int.tmod (M + (k : Int)) N = z) :
    Calls Try.prog 64 #[.int .i64 (k : Int), .pointer (some ⟨o, 0, none⟩), .pointer (some ⟨o', 0, none⟩)] W fun r W' => r = .returned (.int .i64 z) ∧ W' = W := by
  generalize hx : M + (k : Int) = x at *
  have hx' : wrap64 (M + (k : Int)) = x := by rw [← hx]; exact wrap5 (by omega) (by omega)
  clear hx h0 h1 hk
  go_enter Try.func64, Try.ntmps64
  go_wp2
  go_ret
  exact ⟨by rw [← hz]; rfl, rfl⟩
/-- The number of the first row. -/
def firstV (x N : Int) : Int := (twoV 124 N x).1
theorem num5 {s d : List Int} (ho : arrOk s d = true) (h : 0 < d.length) : ok (d.getD 0 0) = true := by
  unfold arrOk at ho
  rw [Bool.and_eq_true, List.all_eq_true] at ho
  exact ho.2 _ (by simp [h])
theorem first5 {x N : Int} (hx : ok x = true) (hN : 0 < N) (h3 : N ≤ 300) : firstV x N = x % N := by
  have hk : ok N = true := by simp [ok]; omega
  have hm := Int.emod_nonneg x (show N ≠ 0 by omega)
  have hl := Int.emod_lt_of_pos x hN
  have hr : rst x N = x % N := by
    unfold rst
    exact Int.fmod_eq_emod_of_nonneg x (by omega)
  unfold firstV
  rw [twoV_124 hk hx, if_neg (by omega), hr]
  unfold limV
  rw [if_pos (by simp [ok]; omega)]
theorem rotate_chosen {t e : List Int} {x : Int} (ho : arrOk t e = true) (ht : t ≠ []) (hx : ok x = true) : chosenD t e (fun k => (firstV x (t.getD 0 0) + (k : Int)) % t.getD 0 0) (rowsN t) = rotateD x t e := by
  obtain ⟨e1, e2⟩ := rowsN5 ho
  unfold rotateD
  by_cases h0 : t.getD 0 0 = 0
  · rw [if_pos (.inr h0)]
    have : rowsN t = 0 := by omega
    have q := rows5 ho ht
    rw [this, Nat.zero_mul] at q
    rw [this]
    exact (List.eq_nil_of_length_eq_zero q.symm).symm
  · rw [if_neg (by intro q; rcases q with q | q; exact ht q; exact h0 q)]
    unfold chosenD
    rw [List.flatMap_def, List.flatMap_def]
    congr 1
    apply List.map_congr_left
    intro i hi
    have hi' : i < rowsN t := by simpa using hi
    dsimp only
    have f := first5 (N := t.getD 0 0) hx (by omega) (by omega)
    have hm := Int.emod_nonneg (x % t.getD 0 0 + (i : Int)) h0
    have hl := Int.emod_lt_of_pos (x % t.getD 0 0 + (i : Int)) (show 0 < t.getD 0 0 by omega)
    have hm2 := Int.emod_nonneg x h0
    unfold chosenRow
    rw [f, if_pos ⟨hm, hl⟩]
    congr 1
    unfold rotateBy
    have : ((((i + (x % (rowsN t : Int)).toNat) % rowsN t : Nat)) : Int) = (x % t.getD 0 0 + (i : Int)) % t.getD 0 0 := by
      rw [Int.natCast_emod, Int.natCast_add, e2] at *
      rw [Int.toNat_of_nonneg hm2, Int.add_comm]
    omega
theorem oneC_zero {s d t e : List Int} (h : oneC s d t e = 0) : arrOk s d = true ∧ arrOk t e = true ∧ d.length = 1 := by
  unfold oneC at h
  by_cases q : arrOk s d = true ∧ arrOk t e = true
  · rw [if_pos q] at h
    by_cases l : d.length ≠ 1
    · rw [if_pos l] at h; cases h
    · exact ⟨q.1, q.2, by simpa using l⟩
  · rw [if_neg q] at h; cases h
theorem rotateD_len {s d t e : List Int} (h : oneC s d t e = 0) : (rotateD (d.getD 0 0) t e).length = e.length := by
  obtain ⟨q1, q2, q3⟩ := oneC_zero h
  by_cases hs : t = []
  · unfold rotateD; rw [if_pos (.inl hs)]
  · rw [← rotate_chosen q2 hs (num5 q1 (by omega)), chosenD_length q2 hs, rows5 q2 hs]
set_option maxRecDepth 20000 in
set_option maxHeartbeats 4000000 in
/-- Rotate. -/
theorem rotate_impl {s d t e : List Int} {w : World} {v u : Value} (h : ArrI w v s d) (k : ArrI w u t e) (hs : s.length ≤ 1048576) (hd : d.length ≤ 1048576) (ht : t.length ≤ 1048576) (he : e.length ≤ 1048576) :
    Calls Try.prog 22 #[v, u] w fun r w' => ∃ v', r = .returned (.tuple #[v', .int .i64 (rotateR s d t e).1]) ∧ Arr w.heap.size w'.heap.size w' v' (rotateR s d t e).2.1 (rotateR s d t e).2.2 ∧ Below w.heap.size w w' := by
  have H : Hid (ArrI w v s d) := h
  have K : Hid (ArrI w u t e) := k
  obtain ⟨a, c, b, f, rfl, h1, h2, g1, g2⟩ := h
  obtain ⟨a', c', b', f', rfl, k1, k2, g3, g4⟩ := k
  have HSN : Hid (∀ (W : World) (o : Nat), Below w.heap.size w W → Box W o (.slice a' t.length c') (.slice b' e.length f') 26 → Calls Try.prog 39 #[.agg #[.slice a s.length c, .slice b d.length f], .slice (some ⟨o, 0, none⟩) 1 1] W fun r w' => r = .returned (.tuple #[.int .i64 (soleV s d (arrOk t e)), .int .i64 (oneC s d t e)]) ∧ Below W.heap.size W w') := fun W o hb ho => sole2_impl (H.out.keep hb) (K.out.keep hb) hd ht he ho
  have HCO : Hid (∀ W, Below w.heap.size w W → Calls Try.prog 54 #[.agg #[.slice a' t.length c', .slice b' e.length f']] W fun r w' => ∃ v', r = .returned v' ∧ Arr W.heap.size w'.heap.size w' v' t e ∧ Below W.heap.size W w') := fun W hb => copyOf_impl (K.out.keep hb) ht he
  have EQ : oneC s d t e = 0 → arrOk s d = true ∧ arrOk t e = true ∧ d.length = 1 := fun h => by
    unfold oneC at h
    by_cases q : arrOk s d = true ∧ arrOk t e = true
    · rw [if_pos q] at h
      by_cases l : d.length ≠ 1
      · rw [if_pos l] at h; cases h
      · exact ⟨q.1, q.2, by simpa using l⟩
    · rw [if_neg q] at h; cases h
  have EV : oneC s d t e = 0 → soleV s d (arrOk t e) = d.getD 0 0 := fun h => by
    unfold soleV
    exact if_pos h
  have HCH : Hid (oneC s d t e = 0 → t ≠ [] → ∀ (W : World) (o o' : Nat), Below w.heap.size w W → W.cell? ⟨o, 0, none⟩ = some (.int .i64 (firstV (soleV s d (arrOk t e)) (t.getD 0 0))) → o < W.heap.size → W.cell? ⟨o', 0, none⟩ = some (.int .i64 (t.getD 0 0)) → o' < W.heap.size → Calls Try.prog 55 #[.agg #[.slice a' t.length c', .slice b' e.length f'], .int .i64 (t.getD 0 0), .func (.func 64) #[] #[.pointer (some ⟨o, 0, none⟩), .pointer (some ⟨o', 0, none⟩)]] W fun r w' => ∃ v', r = .returned v' ∧ Arr W.heap.size w'.heap.size w' v' t (rotateD (d.getD 0 0) t e) ∧ Below W.heap.size W w') := fun hc hn W o o' hb c1 l1 c2 l2 => by
    obtain ⟨q1, q2, q3⟩ := EQ hc
    rw [EV hc] at c1
    obtain ⟨e1, e2⟩ := rowsN5 q2
    have hx := num5 q1 (by omega)
    have q := chosen2_impl (s := t) (d := e) (w := W) (v := .agg #[.slice a' t.length c', .slice b' e.length f']) (p := .pointer (some ⟨o, 0, none⟩)) (q := .pointer (some ⟨o', 0, none⟩)) (f := 64) (n := rowsN t) (φ := fun k => (firstV (d.getD 0 0) (t.getD 0 0) + (k : Int)) % t.getD 0 0) e2 (enters_of Try.func64 (by kernel_rfl) rfl) (K.out.keep hb) q2 hn (by rw [← e2, cons5 hn]; exact arrOk_shape q2) (fun W' k hk hb' => by
      have f1 := first5 (N := t.getD 0 0) hx (by omega) (by omega)
      have hm := Int.emod_nonneg (d.getD 0 0) (show t.getD 0 0 ≠ 0 by omega)
      have hl := Int.emod_lt_of_pos (d.getD 0 0) (show 0 < t.getD 0 0 by omega)
      have hm2 := Int.emod_nonneg (firstV (d.getD 0 0) (t.getD 0 0) + (k : Int)) (show t.getD 0 0 ≠ 0 by omega)
      have hl2 := Int.emod_lt_of_pos (firstV (d.getD 0 0) (t.getD 0 0) + (k : Int)) (show 0 < t.getD 0 0 by omega)
      refine (rotate1_impl (z := (firstV (d.getD 0 0) (t.getD 0 0) + (k : Int)) % t.getD 0 0) (cell_keep5 c1 l1 hb') (cell_keep5 c2 l2 hb') (by omega) (by omega) (by omega) (by omega) ?_).mono ?_
      · exact Int.tmod_eq_emod_of_nonneg (by omega)
      · rintro r w' ⟨rfl, rfl⟩
        exact ⟨rfl, Below.refl _ _⟩)
    rw [rotate_chosen q2 hn hx, ← e2, cons5 hn] at q
    exact q
  have HTW : Hid (∀ W, Calls Try.prog 63 #[.int .i64 124, .int .i64 (t.getD 0 0), .int .i64 (soleV s d (arrOk t e))] W fun r w' => ∃ z, r = .returned (.tuple #[.int .i64 (firstV (soleV s d (arrOk t e)) (t.getD 0 0)), .int .i64 z]) ∧ Below W.heap.size W w') := fun W => by
    refine (two_impl 124 _ _ W).mono ?_
    rintro r w' ⟨rfl, hb⟩
    exact ⟨_, rfl, hb⟩
  obtain ⟨x, hx⟩ : ∃ x, x = (rotateR s d t e).1 := ⟨_, rfl⟩
  obtain ⟨S, hS⟩ : ∃ S, S = (rotateR s d t e).2.1 := ⟨_, rfl⟩
  obtain ⟨D, hD⟩ : ∃ D, D = (rotateR s d t e).2.2 := ⟨_, rfl⟩
  rw [← hx, ← hS, ← hD]
  have E1 : Hid (oneC s d t e ≠ 0 → x = oneC s d t e ∧ S = [] ∧ D = []) := fun h => by
    rw [hx, hS, hD]; unfold rotateR; rw [mkR_bad h]; exact ⟨rfl, rfl, rfl⟩
  have E2 : Hid (oneC s d t e = 0 → x = 0 ∧ S = t ∧ D = rotateD (d.getD 0 0) t e) := fun h => by
    rw [hx, hS, hD]; unfold rotateR; rw [h, mkR_good]; exact ⟨rfl, rfl, rfl⟩
  have HI : Hid (Ints w a' t) := k1
  have ET : Hid (t = [] → rotateD (d.getD 0 0) t e = e) := fun h => by unfold rotateD; rw [if_pos (.inl h)]
  clear hx hS hD hs hd ht he h1 h2 k1 k2 g1 g2 g3 g4 EQ EV
  generalize soleV s d (arrOk t e) = xv at *
  generalize rotateD (d.getD 0 0) t e = TD at *
  generalize oneC s d t e = y at *
  go_enter Try.func22, Try.ntmps22
  go_wp2_with fail
  refine (HSN.out _ _ (bAlloc (bAlloc (bAlloc (bAlloc (Below.refl _ _) _) _) _) _) (by exact (four5 w _ _ _ _).2.2.2)).mono ?_
  rintro r w1 ⟨rfl, hb⟩
  have q4 := four5 w (.cells #[.slice a s.length c, .slice b d.length f] 26) (.cells #[.slice a' t.length c', .slice b' e.length f'] 26) (.cells #[.slice none 0 0, .slice none 0 0] 26) (.cells #[.slice a' t.length c', .slice b' e.length f'] 26)
  have HB1 : Hid (Below w.heap.size w w1) := bTrans (bAlloc (bAlloc (bAlloc (bAlloc (Below.refl _ _) _) _) _) _) hb
  have X1 : Hid (Box w1 w.heap.size (.slice a s.length c) (.slice b d.length f) 26) := Box.keep q4.1 hb
  have Y1 : Hid (Box w1 (w.heap.size + 1) (.slice a' t.length c') (.slice b' e.length f') 26) := Box.keep q4.2.1 hb
  have R1 : Hid (Box w1 (w.heap.size + 1 + 1) (.slice none 0 0) (.slice none 0 0) 26) := Box.keep q4.2.2.1 hb
  clear hb q4
  clear HSN
  by_cases hy : y = 0
  · subst hy
    obtain ⟨rfl, eS, eD⟩ := E2.out (by trivial)
    have ES : Hid (S = t ∧ D = TD) := ⟨eS, eD⟩
    clear E1 E2 eS eD
    have LT : Hid (w.heap.size + 1 + 1 < w1.heap.size) := R1.out.lt
    have x0 := Y1.out.c0
    have x1 := Y1.out.c1
    by_cases hn : t = []
    · have ET' : Hid (TD = e) := ET.out hn
      have hl : t.length = 0 := by rw [hn]; rfl
      have hle : ((t.length : Int) == 0) = true := by rw [hl]; rfl
      clear hn hl HCH HTW
      go_wp2_with fail
      refine (HCO.out _ HB1.out).mono ?_
      rintro r w2 ⟨v', rfl, ha, hb⟩
      obtain ⟨a2, c2, b2, e2, rfl, _, _, _, _⟩ := ha.arrI
      have HA : Hid (Arr w1.heap.size w2.heap.size w2 (.agg #[.slice a2 t.length c2, .slice b2 e.length e2]) t e) := ha
      have HB2 : Hid (Below w.heap.size w w2) := bTrans HB1.out hb
      have R2 : Hid (Box w2 (w.heap.size + 1 + 1) (.slice none 0 0) (.slice none 0 0) 26) := R1.out.keep hb
      clear ha hb x0 x1
      have y0 := R2.out.c0
      have y1 := R2.out.c1
      have f0 : w2.frozen? ⟨w.heap.size + 1 + 1, 0, none⟩ = false := free_at R2.out 0
      have f1 : w2.frozen? ⟨w.heap.size + 1 + 1, 1, none⟩ = false := free_at R2.out 1
      have HR : Hid (((w2.setCell ⟨w.heap.size + 1 + 1, 0, none⟩ (.slice a2 t.length c2)).setCell ⟨w.heap.size + 1 + 1, 1, none⟩ (.slice b2 e.length e2)).heap[w.heap.size + 1 + 1]? = some (.cells #[.slice a2 t.length c2, .slice b2 e.length e2] 26 (0, 0))) := arr_stored R2.out
      go_wp2
      refine bodyPost_ret (results_arr_tmp Try.results22 _ _ (w.heap.size + 1 + 1) _ _ rfl HR.out) rfl ?_
      refine ⟨_, rfl, ?_, below_setCell (below_setCell HB2.out (by omega) _ _) (by omega) _ _⟩
      have L := LT.out
      rw [ES.out.1, ES.out.2, ET'.out]
      exact ((HA.out.setCell L _ _).setCell L _ _).mono (by omega) (by simp [size_setCell])
    · have hsp : 0 < t.length := List.length_pos_iff.2 hn
      have hne : ((t.length : Int) == 0) = false := by simp; exact hn
      have HCH2 := HCH.out (by trivial) hn
      have HCH' : Hid (∀ (W : World) (o o' : Nat), Below w.heap.size w W → W.cell? ⟨o, 0, none⟩ = some (.int .i64 (firstV xv (t.getD 0 0))) → o < W.heap.size → W.cell? ⟨o', 0, none⟩ = some (.int .i64 (t.getD 0 0)) → o' < W.heap.size → Calls Try.prog 55 #[.agg #[.slice a' t.length c', .slice b' e.length f'], .int .i64 (t.getD 0 0), .func (.func 64) #[] #[.pointer (some ⟨o, 0, none⟩), .pointer (some ⟨o', 0, none⟩)]] W fun r w' => ∃ v', r = .returned v' ∧ Arr W.heap.size w'.heap.size w' v' t TD ∧ Below W.heap.size W w') := HCH2
      obtain ⟨ab, ao, rfl, _, _⟩ := HI.out.at hsp
      have HN0 : Hid (∀ W, Below w.heap.size w W → W.cell? ⟨ab, ao, none⟩ = some (.int .i64 (t.getD 0 0))) := fun W hb => ints_cell5 (HI.out.keep hb) hsp
      clear HCH HCH2 HCO ET hn
      generalize firstV xv (t.getD 0 0) = M at *
      generalize t.getD 0 0 = N at *
      have xn := HN0.out _ HB1.out
      go_wp2_with fail
      refine (HTW.out _).mono ?_
      rintro r w2 ⟨z, rfl, hb⟩
      have B12 : Hid (Below w1.heap.size w1 w2) := bTrans (bAlloc (Below.refl _ _) _) hb
      have CN : Hid (w2.cell? ⟨w1.heap.size, 0, none⟩ = some (.int .i64 N)) := cell_keep5 (cell_at (cs := #[.int .i64 N]) (heap_alloc_new w1 _) rfl) (by simp) hb
      have L12 : Hid (w1.heap.size < w2.heap.size) := by have := hb.size; show _ < _; simp at this; omega
      have Y2 : Hid (Box w2 (w.heap.size + 1) (.slice (some ⟨ab, ao, none⟩) t.length c') (.slice b' e.length f') 26) := Y1.out.keep B12.out
      clear hb x0 x1 xn
      have W2 : Hid (Below w2.heap.size w2 (w2.alloc (.cells #[.int .i64 M] 3))) := bAlloc (Below.refl _ _) _
      have x0 := Y2.out.c0
      have x1 := Y2.out.c1
      have z0 := (Y2.out.keep W2.out).c0
      have z1 := (Y2.out.keep W2.out).c1
      have cn := CN.out
      have cn' := cell_keep5 CN.out L12.out W2.out
      go_wp2_with fail
      refine (HCH'.out _ _ _ (bTrans HB1.out (bTrans B12.out W2.out)) (cell_at (cs := #[.int .i64 M]) (heap_alloc_new w2 _) rfl) (by simp) cn' (by have := L12.out; simp; omega)).mono ?_
      rintro r w3 ⟨v', rfl, ha, hb⟩
      obtain ⟨a2, c2, b2, e2, rfl, _, _, _, _⟩ := ha.arrI
      have HA : Hid (Arr w1.heap.size w3.heap.size w3 (.agg #[.slice a2 t.length c2, .slice b2 TD.length e2]) t TD) := ha.mono (by have := L12.out; simp; omega) (Nat.le_refl _)
      have HB3 : Hid (Below w.heap.size w w3) := bTrans HB1.out (bTrans B12.out (bTrans W2.out hb))
      have R3 : Hid (Box w3 (w.heap.size + 1 + 1) (.slice none 0 0) (.slice none 0 0) 26) := ((R1.out.keep B12.out).keep W2.out).keep hb
      clear ha hb x0 x1 z0 z1 cn cn'
      have y0 := R3.out.c0
      have y1 := R3.out.c1
      have f0 : w3.frozen? ⟨w.heap.size + 1 + 1, 0, none⟩ = false := free_at R3.out 0
      have f1 : w3.frozen? ⟨w.heap.size + 1 + 1, 1, none⟩ = false := free_at R3.out 1
      have HR : Hid (((w3.setCell ⟨w.heap.size + 1 + 1, 0, none⟩ (.slice a2 t.length c2)).setCell ⟨w.heap.size + 1 + 1, 1, none⟩ (.slice b2 TD.length e2)).heap[w.heap.size + 1 + 1]? = some (.cells #[.slice a2 t.length c2, .slice b2 TD.length e2] 26 (0, 0))) := arr_stored R3.out
      go_wp2
      refine bodyPost_ret (results_arr_tmp Try.results22 _ _ (w.heap.size + 1 + 1) _ _ rfl HR.out) rfl ?_
      refine ⟨_, rfl, ?_, below_setCell (below_setCell HB3.out (by omega) _ _) (by omega) _ _⟩
      have L := LT.out
      rw [ES.out.1, ES.out.2]
      exact ((HA.out.setCell L _ _).setCell L _ _).mono (by omega) (by simp [size_setCell])
  · obtain ⟨rfl, rfl, rfl⟩ := E1.out hy
    have hne : (x != 0) = true := by simpa using hy
    clear E1 E2 hy
    have y0 := R1.out.c0
    have y1 := R1.out.c1
    have f0 : w1.frozen? ⟨w.heap.size + 1 + 1, 0, none⟩ = false := free_at R1.out 0
    have f1 : w1.frozen? ⟨w.heap.size + 1 + 1, 1, none⟩ = false := free_at R1.out 1
    have HR : Hid (((w1.setCell ⟨w.heap.size + 1 + 1, 0, none⟩ (.slice none 0 0)).setCell ⟨w.heap.size + 1 + 1, 1, none⟩ (.slice none 0 0)).heap[w.heap.size + 1 + 1]? = some (.cells #[.slice none 0 0, .slice none 0 0] 26 (0, 0))) := arr_stored R1.out
    go_wp2
    refine bodyPost_ret (results_arr_tmp Try.results22 _ _ (w.heap.size + 1 + 1) _ _ rfl HR.out) rfl ?_
    exact ⟨_, rfl, arr_zero _ _ _, below_setCell (below_setCell HB1.out (by omega) _ _) (by omega) _ _⟩
end Go.Proofs.Ytlbmbjgbihljhad
