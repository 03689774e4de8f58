/-
  Several texts, one behind the other: ImplInn1, RowsF, RotF.
-/
import Derived.Test.YtnkacfgbkfkhdaaGreatY33
import Derived.Test.YtnkacfgbkfkhdaaGreatY3
import Derived.Test.YtnkacfgbkfkhdaaGreatY11
import Derived.Test.YtnkacfgbkfkhdaaGreatY4
import Derived.Test.YtnkacfgbkfkhdaaGreatY30
import Derived.Test.YtnkacfgbkfkhdaaGreatY19
namespace Go.Proofs.YtnkacfgbkfkhdaaGreat
open Go.RowKit Go.Shelf
set_option linter.unusedVariables false
set_option linter.unusedSimpArgs false
set_option maxRecDepth 20000 in
set_option maxHeartbeats 8000000 in
/-- One number of an inner product: of row i and column j. -/
theorem inner1_impl {f g n : Int} {x y : List Int} {FX FY : List (List Int)} {w : World} {xa ya : Option Addr} {nR nC xc yc p q o p1 p2 p3 k : Nat} (hx : ArrsI w (.slice xa nR xc) FX) (hy : ArrsI w (.slice ya nC yc) FY)
    (h1 : w.cell? ⟨p1, 0, none⟩ = some (.func (.func 57) #[] #[.pointer (some ⟨p, 0, none⟩), .pointer (some ⟨q, 0, none⟩)])) (h2 : w.cell? ⟨p2, 0, none⟩ = some (.slice xa nR xc)) (h3 : w.cell? ⟨p3, 0, none⟩ = some (.slice ya nC yc)) (l1 : p1 < w.heap.size) (l2 : p2 < w.heap.size) (l3 : p3 < w.heap.size)
    (hm : MetAt w f g p q o) (hg : sign2 g = true) (hf : ok (neu f).1 = true) (hC : 0 < nC) (hk : k / nC < nR) (hk9 : k ≤ 90000) (ex : FX.getD (2 * (k / nC)) [] = [n] ∧ FX.getD (2 * (k / nC) + 1) [] = x) (ey : FY.getD (2 * (k % nC)) [] = [n] ∧ FY.getD (2 * (k % nC) + 1) [] = y) (ox : arrOk [n] x = true) (oy : arrOk [n] y = true) (hn : nC ≤ 90000) :
    Calls Tryz.prog 27 #[.int .i64 (k : Int), .pointer (some ⟨p1, 0, none⟩), .pointer (some ⟨p2, 0, none⟩), .pointer (some ⟨p3, 0, none⟩)] w fun r w' => ∃ v', r = .returned (.tuple #[v', .int .i64 (cellR f g x y n.toNat).2]) ∧ Arr w.heap.size w'.heap.size w' v' [] (cellL f g x y n.toNat) ∧ Below w.heap.size w w' := by
  obtain ⟨i, hi⟩ : ∃ i, i = k / nC := ⟨_, rfl⟩
  obtain ⟨j, hj⟩ : ∃ j, j = k % nC := ⟨_, rfl⟩
  have hjn : j < nC := by rw [hj]; exact Nat.mod_lt _ hC
  have ei : (k : Int).tdiv (nC : Int) = (i : Int) := by rw [Int.tdiv_eq_ediv_of_nonneg (by omega), hi]; simp
  have ei2 : (k : Int) / (nC : Int) = (i : Int) := by rw [hi]; simp
  have ej : (k : Int).tmod (nC : Int) = (j : Int) := by rw [Int.tmod_eq_emod_of_nonneg (by omega), hj]; simp
  have ej2 : (k : Int) % (nC : Int) = (j : Int) := by rw [hj]; simp
  rw [← hi] at hk ex
  rw [← hj] at ey
  have hib : i ≤ 90000 := by rw [hi]; exact Nat.le_trans (Nat.div_le_self _ _) hk9
  obtain ⟨o1, f1, s1, d1, rfl, ho1, c0, c1, i0, i1⟩ := hx.at (k := i) hk
  obtain ⟨o2, f2, s2, d2, rfl, ho2, e0, e1, j0, j1⟩ := hy.at (k := j) hjn
  rw [ex.1] at i0
  rw [ex.2] at i1
  rw [ey.1] at j0
  rw [ey.2] at j1
  obtain ⟨a1, b1, rfl, g0, i0⟩ := i0
  obtain ⟨a2, b2, rfl, g1, i1⟩ := i1
  obtain ⟨a3, b3, rfl, g2, j0⟩ := j0
  obtain ⟨a4, b4, rfl, g3, j1⟩ := j1
  have AX : Hid (ArrI w (.agg #[.slice a1 1 b1, .slice a2 x.length b2]) [n] x) := ⟨_, _, _, _, rfl, i0, i1, g0, g1⟩
  have AY : Hid (ArrI w (.agg #[.slice a3 1 b3, .slice a4 y.length b4]) [n] y) := ⟨_, _, _, _, rfl, j0, j1, g2, g3⟩
  have HMT : Hid (∀ W, Below w.heap.size w W → Calls Tryz.prog 57 #[.agg #[.slice a1 1 b1, .slice a2 x.length b2], .agg #[.slice a3 1 b3, .slice a4 y.length b4], .pointer (some ⟨p, 0, none⟩), .pointer (some ⟨q, 0, none⟩)] W fun r w' => ∃ v', r = .returned (.tuple #[v', .int .i64 (cellR f g x y n.toNat).2]) ∧ Arr W.heap.size w'.heap.size w' v' [] (cellL f g x y n.toNat) ∧ Below W.heap.size W w') := fun W hb => met_impl (AX.out.keep hb) (AY.out.keep hb) ox oy (hm.keep hb) hg hf
  generalize (cellR f g x y n.toNat).2 = QC at *
  generalize cellL f g x y n.toNat = QD at *
  simp only [List.length_cons, List.length_nil, Nat.zero_add] at c0 e0
  have hiR : (i : Int) < (nR : Int) := by omega
  have hjC : (j : Int) < (nC : Int) := by omega
  have hi0 : (0 : Int) ≤ (i : Int) := by omega
  have hj0 : (0 : Int) ≤ (j : Int) := by omega
  have hw1 : IntKind.i64.wrap (i : Int) = (i : Int) := wrapI (by omega) (by omega)
  have hw2 : IntKind.i64.wrap (j : Int) = (j : Int) := wrapI (by omega) (by omega)
  have hz : ((nC : Int) == 0) = false := by simp; omega
  have hz2 : (nC : Int) ≠ 0 := by omega
  have hz3 : nC ≠ 0 := by omega
  have hz4 : (nC == 0) = false := by simp; omega
  have hi' : k / nC = i := hi.symm
  have hj' : k % nC = j := hj.symm
  have hE := enters_of Tryz.func57 (by kernel_rfl) rfl
  clear i0 i1 j0 j1 g0 g1 g2 g3 hx hy ex ey ox oy hm hg hf hi hj
  have BA : Hid (∀ O : Obj, Below w.heap.size w (w.alloc O)) := fun O => bAlloc (Below.refl _ _) O
  go_enter Tryz.func27, Tryz.ntmps27
  go_wp2_with fail
  generalize hW : w.alloc (.cells #[.slice none 0 0, .slice none 0 0] 26) = wa
  have BW : Hid (Below w.heap.size w wa) := by rw [← hW]; exact bAlloc (Below.refl _ _) _
  have RB : Hid (Box wa w.heap.size (.slice none 0 0) (.slice none 0 0) 26) := by rw [← hW]; exact box_new w _ _ _
  clear hW
  have LT : Hid (w.heap.size < wa.heap.size) := RB.out.lt
  have KEEP : Hid (∀ W, Below w.heap.size w W → W.cell? ⟨p1, 0, none⟩ = some (.func (.func 57) #[] #[.pointer (some ⟨p, 0, none⟩), .pointer (some ⟨q, 0, none⟩)]) ∧ W.cell? ⟨p2, 0, none⟩ = some (.slice (some ⟨o1, f1, none⟩) nR xc) ∧ W.cell? ⟨p3, 0, none⟩ = some (.slice (some ⟨o2, f2, none⟩) nC yc) ∧ W.cell? ⟨o1, f1 + i * 2, none⟩ = some (.slice a1 1 b1) ∧ W.cell? ⟨o1, f1 + i * 2 + 1, none⟩ = some (.slice a2 x.length b2) ∧ W.cell? ⟨o2, f2 + j * 2, none⟩ = some (.slice a3 1 b3) ∧ W.cell? ⟨o2, f2 + j * 2 + 1, none⟩ = some (.slice a4 y.length b4)) := fun W hb =>
    ⟨(hb.cell (p := ⟨p1, 0, none⟩) l1).trans h1, (hb.cell (p := ⟨p2, 0, none⟩) l2).trans h2, (hb.cell (p := ⟨p3, 0, none⟩) l3).trans h3, (hb.cell (p := ⟨o1, f1 + i * 2, none⟩) ho1).trans c0, (hb.cell (p := ⟨o1, f1 + i * 2 + 1, none⟩) ho1).trans c1, (hb.cell (p := ⟨o2, f2 + j * 2, none⟩) ho2).trans e0, (hb.cell (p := ⟨o2, f2 + j * 2 + 1, none⟩) ho2).trans e1⟩
  clear h1 h2 h3 c0 c1 e0 e1
  have m0 := KEEP.out wa BW.out
  go_region_held3 (fun W => W.cell? ⟨p1, 0, none⟩ = some (.func (.func 57) #[] #[.pointer (some ⟨p, 0, none⟩), .pointer (some ⟨q, 0, none⟩)]) ∧ W.cell? ⟨p2, 0, none⟩ = some (.slice (some ⟨o1, f1, none⟩) nR xc) ∧ W.cell? ⟨p3, 0, none⟩ = some (.slice (some ⟨o2, f2, none⟩) nC yc) ∧ W.cell? ⟨o1, f1 + i * 2, none⟩ = some (.slice a1 1 b1) ∧ W.cell? ⟨o1, f1 + i * 2 + 1, none⟩ = some (.slice a2 x.length b2) ∧ W.cell? ⟨o2, f2 + j * 2, none⟩ = some (.slice a3 1 b3) ∧ W.cell? ⟨o2, f2 + j * 2 + 1, none⟩ = some (.slice a4 y.length b4))
    (first | exact m0 | with_reducible exact m9 | (exact KEEP.out _ (below_setCell (below_setCell B9.out (by omega) _ _) (by omega) _ _)))
    ((go_at_call 57; refine (HMT.out _ (BW.out.drew)).mono ?_; rintro r w9 ⟨v9, rfl, ha, hb⟩; obtain ⟨s9, t9, d9, f9, rfl, _, _, _, _⟩ := ha.arrI; have A9 : Hid (Arr wa.heap.size w9.heap.size w9 (.agg #[.slice s9 0 t9, .slice d9 QD.length f9]) [] QD) := ha; have B9 : Hid (Below w.heap.size w w9) := bTrans (BW.out.drew) hb; have R9 : Hid (Box w9 w.heap.size (.slice none 0 0) (.slice none 0 0) 26) := Box.keep (w := wa.drew) (RB.out.keep ((Below.refl _ _).drew)) hb; have m9 := KEEP.out w9 B9.out; have y0 := R9.out.c0; have y1 := R9.out.c1; have k0 := free_at R9.out 0; have k1 := free_at R9.out 1; have HRR : Hid (_ = _) := arr_stored (x' := .slice s9 0 t9) (y' := .slice d9 QD.length f9) R9.out; clear ha hb))
  all_goals
    go_wp2
    refine bodyPost_ret (results_arr_tmp Tryz.results27 _ _ w.heap.size _ _ rfl HRR.out) rfl ?_
    refine ⟨_, rfl, ?_, below_setCell (below_setCell B9.out (by omega) _ _) (by omega) _ _⟩
    have L1 := LT.out
    exact ((A9.out.setCell (by omega) _ _).setCell (by omega) _ _).mono (by omega) (by simp only [size_setCell]; omega)
end Go.Proofs.YtnkacfgbkfkhdaaGreat
namespace Go.Proofs.YtnkacfgbkfkhdaaGreat
set_option linter.unusedVariables false
theorem rows_facts {n0 : Int} {t d : List Int} (ho : arrOk (n0 :: t) d = true) :
    ∃ cnt N : Nat, n0 = (cnt : Int) ∧ cnt ≤ 300 ∧ N ≤ 300 ∧ cnt * N = d.length ∧ (rowsF (n0 :: t) d).length = 2 * cnt ∧
      ∀ k, k < cnt → (rowsF (n0 :: t) d).getD (2 * k) [] = t ∧ ∃ D, (rowsF (n0 :: t) d).getD (2 * k + 1) [] = D ∧ D.length = N ∧ arrOk t D = true ∧ ∀ j, j < N → D.getD j 0 = d.getD (k * N + j) 0 := by
  have hh := head_bd ho
  simp only [List.getD_cons_zero] at hh
  obtain ⟨cnt, rfl⟩ : ∃ cnt : Nat, n0 = (cnt : Int) := ⟨n0.toNat, by omega⟩
  have hL : (rowsF ((cnt : Int) :: t) d).length = 2 * cnt := by rw [rowsF_length, if_pos ⟨ho, by simp⟩]; simp
  by_cases hp : 0 < cnt
  · obtain ⟨p0, p1, p2⟩ := tail_size ho (by omega)
    obtain ⟨N, hN⟩ : ∃ N : Nat, sizeV t = N := ⟨(sizeV t).toNat, by omega⟩
    rw [hN] at p1
    have hmul : cnt * N = d.length := by
      have : ((cnt * N : Nat) : Int) = (d.length : Int) := by simpa using p1
      omega
    refine ⟨cnt, N, rfl, by omega, by omega, hmul, hL, fun k hk => ?_⟩
    have hat := flat2_at cnt k (fun _ => t) (fun i => (d.drop (i * N)).take N) hk
    have hR : rowsF ((cnt : Int) :: t) d = (List.range cnt).flatMap (fun i => [t, (d.drop (i * N)).take N]) := by
      unfold rowsF
      rw [if_pos ⟨ho, by simp⟩]
      simp [hN]
    have hle : k * N + N ≤ d.length := by
      have q : (k + 1) * N ≤ cnt * N := Nat.mul_le_mul_right N (by omega)
      rw [hmul, Nat.add_mul, Nat.one_mul] at q
      exact q
    have hlen : ((d.drop (k * N)).take N).length = N := by simp; omega
    rw [hR]
    refine ⟨hat.1, _, hat.2, hlen, ?_, fun j hj => ?_⟩
    · have hd : d.all ok = true := by simp only [arrOk, Bool.and_eq_true] at ho; exact ho.2
      simp only [arrOk, Bool.and_eq_true, decide_eq_true_eq, hlen, hN, true_and]
      rw [List.all_eq_true] at hd ⊢
      exact fun x hx => hd x (List.mem_of_mem_drop (List.mem_of_mem_take hx))
    · simp [List.getD, List.getElem?_take_of_lt hj]
  · obtain rfl : cnt = 0 := by omega
    have hz := arrOk_size ho
    have k4 := (sizeV_ok (arrOk_shape ho)).2.2.2
    rw [prodV_cons] at k4
    rw [show ((0 : Nat) : Int) = 0 from rfl, Int.zero_mul] at k4
    rw [show ((0 : Nat) : Int) = 0 from rfl] at hz
    have hd : d.length = 0 := by omega
    exact ⟨0, 0, rfl, by omega, by omega, by omega, hL, fun k hk => by omega⟩
theorem numAt_index {s d : List Int} (ho : arrOk s d = true) {k : Nat} (hk : k < d.length) : numAtOk s d (indexV s (k : Int)) = true ∧ numAtV s d (indexV s (k : Int)) = d.getD k 0 := by
  have hz := arrOk_size ho
  have q := (place_of_index (s := s) (p := (k : Int)) (by omega) (by omega) (by omega)).2
  have h1 : numAtOk s d (indexV s (k : Int)) = true := by simp [numAtOk, ho, q]
  refine ⟨h1, ?_⟩
  rw [numAt_good h1, q, Int.toNat_natCast]
end Go.Proofs.YtnkacfgbkfkhdaaGreat
namespace Go.Proofs.YtnkacfgbkfkhdaaGreat
set_option linter.unusedVariables false
theorem flat_at {N : Nat} {g : Nat → List Int} (k : Nat) : ∀ n, k < n → (∀ i, i < n → (g i).length = N) → (((List.range n).flatMap g).drop (k * N)).take N = g k ∧ ((List.range n).flatMap g).length = n * N := by
  intro n
  induction n with
  | zero => intro h; omega
  | succ n ih =>
    intro hk hg
    have hl : ∀ m, m ≤ n + 1 → ((List.range m).flatMap g).length = m * N := by
      intro m
      induction m with
      | zero => intro _; simp
      | succ m im => intro hm; rw [List.range_succ, List.flatMap_append, List.length_append, im (by omega), Nat.add_mul, Nat.one_mul]; simp [hg m (by omega)]
    refine ⟨?_, hl _ (Nat.le_refl _)⟩
    rw [List.range_succ, List.flatMap_append]
    have e : List.flatMap g [n] = g n := by simp
    rw [e]
    have h1 := hl n (by omega)
    by_cases hkn : k < n
    · obtain ⟨q, _⟩ := ih hkn (fun i hi => hg i (by omega))
      have hle : k * N + N ≤ n * N := by
        have : (k + 1) * N ≤ n * N := Nat.mul_le_mul_right N (by omega)
        rw [Nat.add_mul, Nat.one_mul] at this; exact this
      rw [List.drop_append_of_le_length (by omega), List.take_append_of_le_length (by rw [List.length_drop]; omega)]
      exact q
    · obtain rfl : k = n := by omega
      rw [← h1, List.drop_left, List.take_of_length_le (by rw [hg k (by omega)]; exact Nat.le_refl _)]
theorem rot_code {s d t f : List Int} (h : (rotateR s d t f).1 = 0) : (arrOk s d = true ∧ arrOk t f = true) ∧ d.length = 1 ∧ (rotateR s d t f).2.1 = t ∧ (rotateR s d t f).2.2 = rotateD (d.getD 0 0) t f := by
  unfold rotateR at h ⊢
  rw [mkR_code] at h
  rw [h, mkR_good]
  unfold oneC at h
  by_cases q : arrOk s d = true ∧ arrOk t f = true
  · rw [if_pos q] at h
    by_cases l : d.length ≠ 1
    · rw [if_pos l] at h; cases h
    · exact ⟨q, by simpa using l, rfl, rfl⟩
  · rw [if_neg q] at h; cases h
theorem rot_bad {s d t f : List Int} (h : (rotateR s d t f).1 ≠ 0) : (rotateR s d t f).2.2.length = 0 := by
  unfold rotateR at h ⊢
  rw [mkR_code] at h
  rw [mkR_bad h]; rfl
theorem rot_none {t f : List Int} {x : Int} (h : t = [] ∨ t.getD 0 0 = 0) : rotateD x t f = f := by unfold rotateD; rw [if_pos h]
theorem rowAt_len {t f : List Int} (ho : arrOk t f = true) (ht : t ≠ []) {i : Nat} (hi : i < rowsN t) : (rowAt t f i).length = rowN t := by
  have h := rows5 ho ht
  have : (i + 1) * rowN t ≤ rowsN t * rowN t := Nat.mul_le_mul_right _ (by omega)
  rw [Nat.add_mul, Nat.one_mul] at this
  unfold rowAt
  simp
  omega
theorem rot_rows {t f : List Int} (x : Int) (ho : arrOk t f = true) (hn : ¬ (t = [] ∨ t.getD 0 0 = 0)) :
    ∃ n : Nat, t.getD 0 0 = (n : Int) ∧ 0 < n ∧ n ≤ 300 ∧ (rowsF t f).length = 2 * n ∧ (rowsF t (rotateD x t f)).length = 2 * n ∧
      (Int.tmod (Int.tmod x n + n) n) = ((rotateBy x n : Nat) : Int) ∧ rotateBy x n < n ∧ (-(n : Int) < Int.tmod x n ∧ Int.tmod x n < n) ∧
      ∀ k, k < n → (rowsF t (rotateD x t f)).getD (2 * k) [] = (rowsF t f).getD (2 * ((k + rotateBy x n) % n)) [] ∧ (rowsF t (rotateD x t f)).getD (2 * k + 1) [] = (rowsF t f).getD (2 * ((k + rotateBy x n) % n) + 1) [] := by
  have ht : t ≠ [] := fun h => hn (.inl h)
  have h0 : t.getD 0 0 ≠ 0 := fun h => hn (.inr h)
  have hb := head_bd ho
  have hr : t.getD 0 0 = (rowsN t : Int) := by unfold rowsN; omega
  have hp : 0 < rowsN t := by omega
  have hlen : ∀ i, i < rowsN t → (rowAt t f ((i + rotateBy x (rowsN t)) % rowsN t)).length = rowN t := fun i _ => rowAt_len ho ht (Nat.mod_lt _ hp)
  have hD : rotateD x t f = (List.range (rowsN t)).flatMap (fun i => rowAt t f ((i + rotateBy x (rowsN t)) % rowsN t)) := by unfold rotateD; rw [if_neg hn]
  have hoD : arrOk t (rotateD x t f) = true := by
    have hz := arrOk_size ho
    have hl := (flat_at 0 (rowsN t) hp hlen).2
    rw [← hD, rows5 ho ht] at hl
    have hf : f.all ok = true := by unfold arrOk at ho; rw [Bool.and_eq_true] at ho; exact ho.2
    unfold arrOk
    rw [Bool.and_eq_true, hl]
    refine ⟨by simpa using hz, ?_⟩
    rw [List.all_eq_true] at hf ⊢
    intro y hy
    rw [hD, List.mem_flatMap] at hy
    obtain ⟨i, _, hy⟩ := hy
    exact hf y (List.mem_of_mem_drop (List.mem_of_mem_take hy))
  obtain ⟨q1, q2, q3⟩ := turn_num (x := x) hp
  have hF : ∀ e, arrOk t e = true → rowsF t e = (List.range (rowsN t)).flatMap (fun i => [t.drop 1, rowAt t e i]) := by
    intro e he
    unfold rowsF
    rw [if_pos ⟨he, ht⟩]; rfl
  refine ⟨rowsN t, hr, hp, by omega, ?_, ?_, q1, q2, q3, fun k hk => ?_⟩
  · rw [rowsF_length, if_pos ⟨ho, ht⟩]; rfl
  · rw [rowsF_length, if_pos ⟨hoD, ht⟩]; rfl
  · have a1 := flat2_at (rowsN t) k (fun _ => t.drop 1) (fun i => rowAt t (rotateD x t f) i) hk
    have a2 := flat2_at (rowsN t) ((k + rotateBy x (rowsN t)) % rowsN t) (fun _ => t.drop 1) (fun i => rowAt t f i) (Nat.mod_lt _ hp)
    rw [hF _ hoD, hF _ ho]
    rw [a1.1, a1.2, a2.1, a2.2]
    refine ⟨rfl, ?_⟩
    have := (flat_at k (rowsN t) hk hlen).1
    rw [← hD] at this
    exact this
end Go.Proofs.YtnkacfgbkfkhdaaGreat
