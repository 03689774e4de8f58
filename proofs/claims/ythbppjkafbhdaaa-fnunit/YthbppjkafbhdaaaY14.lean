/-
  Several texts, one behind the other: InnerQ, RedW, UnitF.
-/
import Derived.Test.YthbppjkafbhdaaaY13
import Derived.Test.YthbppjkafbhdaaaY12
namespace Go.Proofs.Ythbppjkafbhdaaa
set_option linter.unusedVariables false
theorem two_of {l : List Int} (h : l.length = 2) : ∃ x y, l = [x, y] := by
  match l, h with
  | [x, y], _ => exact ⟨x, y, rfl⟩
theorem size_q1 {x : Int} (h : 0 ≤ sizeV [x]) : 0 ≤ x ∧ x ≤ 300 ∧ sizeV [x] = x := by
  obtain ⟨_, k2, _, k4⟩ := sizeV_ok h
  rw [prod1] at k4
  have := dimOk_bd (x := x) (by simpa using k2)
  exact ⟨this.1, this.2, k4⟩
theorem size_q2 {x y : Int} (h : 0 ≤ sizeV [x, y]) : 0 ≤ x ∧ x ≤ 300 ∧ 0 ≤ y ∧ y ≤ 300 ∧ sizeV [x, y] = x * y := by
  obtain ⟨_, k2, _, k4⟩ := sizeV_ok h
  rw [prod2] at k4
  simp only [List.all_cons, List.all_nil, Bool.and_true, Bool.and_eq_true] at k2
  have h1 := dimOk_bd k2.1
  have h2 := dimOk_bd k2.2
  exact ⟨h1.1, h1.2, h2.1, h2.2, k4⟩
/-- The sizes of an inner product. -/
def InnerD (s d t e : List Int) (nR n nC : Nat) : Prop :=
  (s = [(n : Int)] ∧ nR = 1 ∨ s = [(nR : Int), (n : Int)]) ∧ (t = [(n : Int)] ∧ nC = 1 ∨ t = [(n : Int), (nC : Int)]) ∧ d.length = nR * n ∧ e.length = n * nC ∧ nR ≤ 300 ∧ n ≤ 300 ∧ nC ≤ 300
theorem inner_dims {s d t e : List Int} (ho : arrOk s d = true) (ho' : arrOk t e = true) (h1 : s.length = 1 ∨ s.length = 2) (h2 : t.length = 1 ∨ t.length = 2) (hl : s.getD (s.length - 1) 0 = t.getD 0 0) :
    ∃ nR n nC : Nat, InnerD s d t e nR n nC := by
  have z1 := arrOk_size ho
  have z2 := arrOk_size ho'
  have y1 := arrOk_shape ho
  have y2 := arrOk_shape ho'
  have hT : ∃ n nC : Nat, (t = [(n : Int)] ∧ nC = 1 ∨ t = [(n : Int), (nC : Int)]) ∧ e.length = n * nC ∧ n ≤ 300 ∧ nC ≤ 300 ∧ t.getD 0 0 = (n : Int) := by
    rcases h2 with h2 | h2
    · obtain ⟨x, rfl⟩ := List.length_eq_one_iff.1 h2
      obtain ⟨a1, a2, a3⟩ := size_q1 y2
      obtain ⟨n, rfl⟩ := Int.eq_ofNat_of_zero_le a1
      exact ⟨n, 1, .inl ⟨rfl, rfl⟩, by omega, by omega, by omega, rfl⟩
    · obtain ⟨x, y, rfl⟩ := two_of h2
      obtain ⟨a1, a2, a3, a4, a5⟩ := size_q2 y2
      obtain ⟨n, rfl⟩ := Int.eq_ofNat_of_zero_le a1
      obtain ⟨m, rfl⟩ := Int.eq_ofNat_of_zero_le a3
      refine ⟨n, m, .inr rfl, ?_, by omega, by omega, rfl⟩
      have : ((e.length : Nat) : Int) = ((n * m : Nat) : Int) := by rw [← z2, a5]; push_cast; rfl
      exact_mod_cast this
  obtain ⟨n, nC, t1, t2, t3, t4, t5⟩ := hT
  rw [t5] at hl
  rcases h1 with h1 | h1
  · obtain ⟨x, rfl⟩ := List.length_eq_one_iff.1 h1
    obtain ⟨a1, a2, a3⟩ := size_q1 y1
    obtain rfl : x = (n : Int) := hl
    exact ⟨1, n, nC, .inl ⟨rfl, rfl⟩, t1, by omega, t2, by omega, t3, t4⟩
  · obtain ⟨x, y, rfl⟩ := two_of h1
    obtain ⟨a1, a2, a3, a4, a5⟩ := size_q2 y1
    obtain rfl : y = (n : Int) := hl
    obtain ⟨m, rfl⟩ := Int.eq_ofNat_of_zero_le a1
    refine ⟨m, n, nC, .inr rfl, t1, ?_, t2, by omega, t3, t4⟩
    have : ((d.length : Nat) : Int) = ((m * n : Nat) : Int) := by rw [← z1, a5]; push_cast; rfl
    exact_mod_cast this
theorem size_p1 (m : Nat) (h : m ≤ 300) : sizeV [(m : Int)] = (m : Int) := by
  have h1 : dimOk (m : Int) = true := by simp [dimOk]; omega
  unfold sizeV
  rw [if_neg (by simp), if_pos (by simp [h1]), prod1, if_neg (by omega)]
theorem size_p2 (m n : Nat) (h : m ≤ 300) (k : n ≤ 300) : sizeV [(m : Int), (n : Int)] = if 300 < m * n then -1 else ((m * n : Nat) : Int) := by
  have h1 : dimOk (m : Int) = true := by simp [dimOk]; omega
  have h2 : dimOk (n : Int) = true := by simp [dimOk]; omega
  unfold sizeV
  rw [if_neg (by simp), if_pos (by simp [h1, h2]), prod2]
  by_cases hh : 300 < m * n
  · have q := Int.natCast_mul m n
    rw [if_pos hh, if_pos (by omega)]
  · have q := Int.natCast_mul m n
    rw [if_neg hh, if_neg (by omega), q]
namespace InnerD
variable {s d t e : List Int} {nR n nC : Nat}
theorem n0 (h : InnerD s d t e nR n nC) : t.getD 0 0 = (n : Int) := by rcases h.2.1 with ⟨rfl, _⟩ | rfl <;> rfl
theorem nn (h : InnerD s d t e nR n nC) : innerN t = n := by unfold innerN; rw [h.n0]; rfl
theorem wide (h : InnerD s d t e nR n nC) : sizeV (t.drop 1) = (nC : Int) := by
  rcases h.2.1 with ⟨rfl, rfl⟩ | rfl
  · exact sizeV_0'
  · exact size_p1 nC h.2.2.2.2.2.2
theorem wideN (h : InnerD s d t e nR n nC) : innerW t = nC := by unfold innerW; rw [h.wide]; rfl
theorem size (h : InnerD s d t e nR n nC) (hz : 0 ≤ sizeV (innerS s t)) : sizeV (innerS s t) = ((nR * nC : Nat) : Int) := by
  obtain ⟨h1, h2, _, _, h5, h6, h7⟩ := h
  rcases h1 with ⟨rfl, rfl⟩ | rfl <;> rcases h2 with ⟨rfl, rfl⟩ | rfl
  · exact sizeV_0'
  · rw [Nat.one_mul]; exact size_p1 nC h7
  · rw [Nat.mul_one]; exact size_p1 nR h5
  · have e : sizeV (innerS [(nR : Int), (n : Int)] [(n : Int), (nC : Int)]) = sizeV [(nR : Int), (nC : Int)] := rfl
    rw [e, size_p2 nR nC h5 h7] at hz ⊢
    split at hz
    · omega
    · rename_i q; rw [if_neg q]
theorem wide_pos (h : InnerD s d t e nR n nC) {k : Nat} (hk : k < nR * nC) : 0 < nC := by
  rcases Nat.eq_zero_or_pos nC with q | q
  · subst q; simp at hk
  · exact q
theorem row_lt (h : InnerD s d t e nR n nC) {k : Nat} (hk : k < nR * nC) : k / nC < nR := Nat.div_lt_of_lt_mul (by rw [Nat.mul_comm]; exact hk)
theorem row_in (h : InnerD s d t e nR n nC) {k : Nat} (hk : k < nR * nC) : k / nC * n + n ≤ d.length := by
  rw [h.2.2.1]
  have := Nat.mul_le_mul_right n (Nat.succ_le_of_lt (h.row_lt hk))
  rw [Nat.succ_mul] at this
  exact this
theorem col_in (h : InnerD s d t e nR n nC) {k j : Nat} (hk : k < nR * nC) (hj : j < n) : j * nC + k % nC < e.length := by
  rw [h.2.2.2.1]
  have h1 := Nat.mul_le_mul_right nC (Nat.succ_le_of_lt hj)
  rw [Nat.succ_mul] at h1
  have h2 := Nat.mod_lt k (h.wide_pos hk)
  omega
theorem count (h : InnerD s d t e nR n nC) (hz : 0 ≤ sizeV (innerS s t)) : nR * nC ≤ 300 := by
  have h1 := h.size hz
  have h2 := sizeV_bd (innerS s t)
  omega
/-- What stands at a place. -/
theorem at_ (h : InnerD s d t e nR n nC) (f g : Int) (k : Nat) : innerK f g d t e k = cellR f g (rowV d n (k / nC)) (colV e n nC (k % nC)) n := by
  unfold innerK; rw [h.nn, h.wideN]
end InnerD
/-- The columns of a matrix are the rows of it flipped. -/
theorem flip_col {e : List Int} {n m : Nat} (hn : n ≤ 300) (hm : m ≤ 300) (he : e.length = n * m) (hz : n * m ≤ 300) {j : Nat} (hj : j < m) :
    ((flipD [(n : Int), (m : Int)] e).drop (j * n)).take n = colV e n m j := by
  have hx : j * n + n ≤ m * n := by have := Nat.mul_le_mul_right n (Nat.succ_le_of_lt hj); rw [Nat.succ_mul] at this; exact this
  have hl : (flipD [(n : Int), (m : Int)] e).length = n * m := by simp [flipD, he]
  have e1 : sizeV [(m : Int), (n : Int)] = ((m * n : Nat) : Int) := by rw [size_p2 m n hm hn, if_neg (by rw [Nat.mul_comm]; omega)]
  have e2 : sizeV [(n : Int), (m : Int)] = ((n * m : Nat) : Int) := by rw [size_p2 n m hn hm, if_neg (by omega)]
  have mc : m * n = n * m := Nat.mul_comm _ _
  apply List.ext_getElem
  · rw [colV_len, List.length_take, List.length_drop, hl]; omega
  · intro k k1 k2
    rw [colV_len] at k2
    rw [List.getElem_take, List.getElem_drop]
    have hi : j * n + k < n * m := by omega
    have hn0 : 0 < n := by omega
    simp only [flipD, colV, List.getElem_map, List.getElem_range]
    congr 1
    have q1 : indexV [(n : Int), (m : Int)].reverse ((j * n + k : Nat) : Int) = [(j : Int), (k : Int)] := by
      show indexV [(m : Int), (n : Int)] ((j * n + k : Nat) : Int) = _
      unfold indexV
      rw [e1, if_neg (by omega)]
      show [((j * n + k : Nat) : Int) / (n : Int) % (m : Int), ((j * n + k : Nat) : Int) % (n : Int)] = _
      have a1 : (j * n + k) / n = j := by rw [Nat.mul_comm, Nat.mul_add_div hn0, Nat.div_eq_of_lt k2, Nat.add_zero]
      have a2 : (j * n + k) % n = k := by rw [Nat.mul_comm, Nat.mul_add_mod, Nat.mod_eq_of_lt k2]
      have a3 : j % m = j := Nat.mod_eq_of_lt hj
      rw [← Int.natCast_ediv, a1, ← Int.natCast_emod, a3, ← Int.natCast_emod, a2]
    rw [q1]
    show (placeV [(n : Int), (m : Int)] [(k : Int), (j : Int)]).toNat = k * m + j
    have q2 : placeV [(n : Int), (m : Int)] [(k : Int), (j : Int)] = ((k * m + j : Nat) : Int) := by
      unfold placeV
      rw [e2, if_neg (by simp; omega), if_pos (by simp [inOk]; omega)]
      simp [hor]
    rw [q2]; rfl
theorem flip_vec {e : List Int} {n : Nat} (hn : n ≤ 300) (he : e.length = n) : flipD [(n : Int)] e = e ∧ colV e n 1 0 = e := by
  have e1 : sizeV [(n : Int)] = (n : Int) := size_p1 n hn
  constructor
  · apply List.ext_getElem
    · simp [flipD]
    · intro k k1 k2
      simp only [flipD, List.getElem_map, List.getElem_range]
      have q1 : indexV [(n : Int)].reverse (k : Int) = [(k : Int)] := by
        show indexV [(n : Int)] (k : Int) = _
        unfold indexV
        rw [e1, if_neg (by omega)]
        show [(k : Int) % (n : Int)] = _
        rw [← Int.natCast_emod, Nat.mod_eq_of_lt (by omega)]
      rw [q1]
      show e.getD (placeV [(n : Int)] [(k : Int)]).toNat 0 = _
      have q2 : placeV [(n : Int)] [(k : Int)] = (k : Int) := by
        unfold placeV
        rw [e1, if_neg (by simp), if_pos (by simp [inOk]; omega)]
        simp [hor]
      rw [q2]
      simp [k2]
  · apply List.ext_getElem
    · rw [colV_len, he]
    · intro k k1 k2
      simp [colV, k2]
end Go.Proofs.Ythbppjkafbhdaaa
namespace Go.Proofs.Ythbppjkafbhdaaa
set_option linter.unusedVariables false
set_option linter.unusedSimpArgs false
/-- A vector, reduced: code and number. -/
def redW (g : Int) : List Int → Int × Int
  | [] => (0, 0)
  | x :: xs => if xs = [] then (0, x) else if (redW g xs).1 = 0 then ((twoV g x (redW g xs).2).2, (twoV g x (redW g xs).2).1) else ((redW g xs).1, 0)
theorem each_scalar {g x y : Int} (hx : ok x = true) (hy : ok y = true) (hg : sign2 g = true) : eachTwoC g [] [x] [] [y] = (twoV g x y).2 ∧ eachTwoD g [] [x] [] [y] = (if (twoV g x y).2 = 0 then [(twoV g x y).1] else []) := by
  have h2 : arrOk [] [y] = true := by simp [arrOk, hy, sizeV_0']
  obtain ⟨e1, _, e3⟩ := each_spread hx h2 hg
  have c : spreadC g x [y] = (twoV g x y).2 := by simp [spreadC, firstC]
  rw [e1, e3, c]
  refine ⟨rfl, ?_⟩
  simp [spreadD]
theorem redW_ok {g : Int} {l : List Int} (hl : l ≠ []) (h : ∀ x ∈ l, ok x = true) (h0 : (redW g l).1 = 0) : ok (redW g l).2 = true := by
  cases l with
  | nil => exact absurd rfl hl
  | cons x xs =>
    unfold redW at *
    by_cases e : xs = []
    · rw [if_pos e]; exact h x (by simp)
    · rw [if_neg e] at *
      by_cases q : (redW g xs).1 = 0
      · rw [if_pos q] at *; exact two_ok h0
      · rw [if_neg q] at *; exact absurd h0 q
theorem redL_vec {g : Int} (hg : sign2 g = true) {l : List Int} (hl : l ≠ []) (h : ∀ x ∈ l, ok x = true) : redL g [] (l.map (fun x => [x])) = ((redW g l).1, if (redW g l).1 = 0 then [(redW g l).2] else []) := by
  induction l with
  | nil => exact absurd rfl hl
  | cons x xs ih =>
    rw [List.map_cons]
    by_cases e : xs = []
    · subst e
      rw [List.map_nil, redL_one]
      simp [redW]
    · have q := ih e (fun y hy => h y (by simp [hy]))
      have hne : xs.map (fun x => [x]) ≠ [] := by simpa using e
      by_cases h0 : (redW g xs).1 = 0
      · have hk := redW_ok e (fun y hy => h y (by simp [hy])) h0
        have e2 : redL g [] (xs.map (fun x => [x])) = (0, [(redW g xs).2]) := by rw [q, h0]; rfl
        obtain ⟨s1, s2⟩ := each_scalar (g := g) (x := x) (y := (redW g xs).2) (h x (by simp)) hk hg
        rw [redL_cons hne (by rw [e2]), e2]
        simp only []
        rw [s1, s2]
        have e3 : redW g (x :: xs) = ((twoV g x (redW g xs).2).2, (twoV g x (redW g xs).2).1) := by rw [redW, if_neg e, if_pos h0]
        rw [e3]
      · have e3 : redW g (x :: xs) = ((redW g xs).1, 0) := by rw [redW, if_neg e, if_neg h0]
        rw [redL_stop (by rw [q]; exact h0), q, e3]
        simp [h0]
theorem rowsD_vec {n : Int} {d : List Int} (h : arrOk [n] d = true) : rowsD [n] d = d.map (fun x => [x]) := by
  have z := arrOk_size h
  rw [(sizeV_ok (arrOk_shape h)).2.2.2, prod1] at z
  subst z
  apply List.ext_getElem
  · simp [rowsD, rowsN]
  · intro i h1 h2
    have hi : i < d.length := by simpa using h2
    simp only [rowsD, List.getElem_map, List.getElem_range]
    have e : rowN [(d.length : Int)] = 1 := by simp [rowN, sizeV_0']
    unfold rowAt
    rw [e, Nat.mul_one]
    have q := List.drop_eq_getElem_cons hi
    rw [q]
    rfl
end Go.Proofs.Ythbppjkafbhdaaa
namespace Go.Proofs.Ythbppjkafbhdaaa
set_option linter.unusedVariables false
def ups (n : Nat) : List Int := (List.range n).map (fun (i : Nat) => (i : Int))
def unitD (n : Nat) : List Int := (List.range (n * n)).map (fun k => if k / n = k % n then 1 else 0)
theorem getD_at {l : List Int} {i : Nat} (h : i < l.length) : l.getD i 0 = l[i] := by simp [h]
theorem getD_out {l : List Int} {i : Nat} (h : l.length ≤ i) : l.getD i 0 = 0 := by simp [List.getD, List.getElem?_eq_none h]
theorem six_cases {n : Nat} (h : n ≤ 6) : n = 0 ∨ n = 1 ∨ n = 2 ∨ n = 3 ∨ n = 4 ∨ n = 5 ∨ n = 6 := by omega
theorem unit_iota {n : Nat} (h : n ≤ 6) : iotaR [] [(n : Int)] = (0, [(n : Int)], ups n) := by
  rcases six_cases h with rfl | rfl | rfl | rfl | rfl | rfl | rfl <;> decide
theorem unit_outer {n : Nat} (h : n ≤ 6) : outerR 61 [(n : Int)] (ups n) [(n : Int)] (ups n) = (0, [(n : Int), (n : Int)], unitD n) := by
  rcases six_cases h with rfl | rfl | rfl | rfl | rfl | rfl | rfl <;> decide
theorem firstC_zero {g : Nat → Int} : ∀ n, (∀ i, i < n → g i = 0) → firstC g n = 0
  | 0, _ => rfl
  | n + 1, h => firstC_go (firstC_zero n (fun i hi => h i (by omega))) (h n (by omega))
theorem two_one {r : Int} (h : ok r = true) : twoV 42 r 1 = (r, 0) := by
  rw [twoV_42 h (by decide), Int.mul_one, (lim_yes h).1, (lim_yes h).2]
theorem two_nought {r : Int} (h : ok r = true) : twoV 42 r 0 = (0, 0) := by
  rw [twoV_42 h (by decide), Int.mul_zero, (lim_yes (by decide)).1, (lim_yes (by decide)).2]
theorem sum_left {r : Int} (h : ok r = true) : twoV 43 0 r = (r, 0) := by
  rw [twoV_43 (by decide) h, Int.zero_add, (lim_yes h).1, (lim_yes h).2]
theorem sum_right {r : Int} (h : ok r = true) : twoV 43 r 0 = (r, 0) := by
  rw [twoV_43 h (by decide), Int.add_zero, (lim_yes h).1, (lim_yes h).2]
theorem redW_step {x v : Int} {xs : List Int} (hx : xs ≠ []) (h : redW 43 xs = (0, v)) : redW 43 (x :: xs) = ((twoV 43 x v).2, (twoV 43 x v).1) := by
  rw [redW, if_neg hx, h, if_pos rfl]
theorem redW_noughts (b : Nat) : redW 43 (List.replicate (b + 1) 0) = (0, 0) := by
  induction b with
  | zero => rfl
  | succ b ih =>
    rw [List.replicate_succ, redW_step (by simp) ih]
    rfl
theorem redW_head {r : Int} (h : ok r = true) (b : Nat) : redW 43 (r :: List.replicate b 0) = (0, r) := by
  cases b with
  | zero => rw [List.replicate_zero, redW, if_pos rfl]
  | succ b => rw [redW_step (by simp) (redW_noughts b), sum_right h]
theorem redW_unit {r : Int} (h : ok r = true) (a b : Nat) : redW 43 (List.replicate a 0 ++ r :: List.replicate b 0) = (0, r) := by
  induction a with
  | zero => rw [List.replicate_zero, List.nil_append]; exact redW_head h b
  | succ a ih => rw [List.replicate_succ, List.cons_append, redW_step (by simp) ih, sum_left h]
/-- One number of it. -/
theorem unit_cell {n j : Nat} {row col : List Int} (hl : row.length = n) (ho : ∀ i, i < n → ok (row.getD i 0) = true) (hj : j < n) (hc : ∀ i, i < n → col.getD i 0 = if i = j then 1 else 0) : cellR 43 42 row col n = (row.getD j 0, 0) := by
  have tw : ∀ i, i < n → twoV 42 (row.getD i 0) (col.getD i 0) = (if i = j then row.getD j 0 else 0, 0) := fun i hi => by
    rw [hc i hi]
    by_cases e : i = j
    · subst e; rw [if_pos rfl, if_pos rfl]; exact two_one (ho i hi)
    · rw [if_neg e, if_neg e]; exact two_nought (ho i hi)
  have p0 : pairC 42 row col n = 0 := firstC_zero n (fun i hi => by show (twoV 42 (row.getD i 0) (col.getD i 0)).2 = 0; rw [tw i hi])
  have pr : pairR 42 row col n = (List.replicate j 0 ++ row.getD j 0 :: List.replicate (n - 1 - j) 0).map (fun x => [x]) := by
    apply List.ext_getElem
    · rw [pairR_len]; simp; omega
    · intro i h1 h2
      rw [pairR_len] at h1
      simp only [pairR, List.getElem_map, List.getElem_range]
      rw [tw i h1]
      congr 1
      rw [List.getElem_append]
      by_cases e : i = j
      · subst e; simp
      · rw [if_neg e]
        by_cases l : i < j
        · simp [l]
        · simp only [List.length_replicate, l, dite_false]
          obtain ⟨p, hp⟩ : ∃ p, i - j = p + 1 := ⟨i - j - 1, by omega⟩
          simp [hp]
  have okL : ∀ x ∈ List.replicate j 0 ++ row.getD j 0 :: List.replicate (n - 1 - j) 0, ok x = true := by
    intro x hx
    rw [List.mem_append, List.mem_cons] at hx
    rcases hx with hx | hx | hx
    · rw [(List.mem_replicate.1 hx).2]; decide
    · rw [hx]; exact ho j hj
    · rw [(List.mem_replicate.1 hx).2]; decide
  have q := redL_vec (g := 43) (by decide) (l := List.replicate j 0 ++ row.getD j 0 :: List.replicate (n - 1 - j) 0) (by simp) okL
  rw [redW_unit (ho j hj), if_pos rfl, ← pr] at q
  unfold cellR
  rw [if_pos p0, if_neg (by omega), q, if_pos rfl]
  rfl
theorem unit_inner {m n : Nat} {d : List Int} (ho : arrOk [(m : Int), (n : Int)] d = true) (hu : arrOk [(n : Int), (n : Int)] (unitD n) = true) :
    innerR 43 42 [(m : Int), (n : Int)] d [(n : Int), (n : Int)] (unitD n) = (0, [(m : Int), (n : Int)], d) := by
  have hz := arrOk_shape ho
  obtain ⟨a1, a2, a3, a4, a5⟩ := size_q2 hz
  have hlen := arrOk_size ho
  have hd : d.length = m * n := by
    have : ((d.length : Nat) : Int) = ((m * n : Nat) : Int) := by rw [← hlen, a5]; push_cast; rfl
    exact_mod_cast this
  have hsz : sizeV (innerS [(m : Int), (n : Int)] [(n : Int), (n : Int)]) = ((m * n : Nat) : Int) := by
    show sizeV [(m : Int), (n : Int)] = _
    rw [hlen, hd]
  have DIM : InnerD [(m : Int), (n : Int)] d [(n : Int), (n : Int)] (unitD n) m n n := ⟨.inr rfl, .inr rfl, hd, by simp [unitD], by omega, by omega, by omega⟩
  rw [innerR_told ⟨ho, hu, by decide, by decide⟩, if_pos ⟨.inr rfl, .inr rfl⟩, if_neg (by simp), if_neg (by rw [hsz]; omega), hsz]
  have okd : ∀ i, ok (d.getD i 0) = true := fun i => by
    have := ho
    simp only [arrOk, Bool.and_eq_true] at this
    by_cases hi : i < d.length
    · have := List.all_eq_true.1 this.2 d[i] (List.getElem_mem hi)
      rw [getD_at hi]; exact this
    · rw [getD_out (by omega)]; decide
  have key : ∀ k, k < m * n → innerK 43 42 d [(n : Int), (n : Int)] (unitD n) k = (d.getD k 0, 0) := fun k hk => by
    have hp := DIM.wide_pos hk
    have hm := Nat.mod_lt k hp
    have hr := DIM.row_in hk
    rw [DIM.at_]
    have rg : ∀ i, i < n → (rowV d n (k / n)).getD i 0 = d.getD (k / n * n + i) 0 := fun i hi => by
      unfold rowV
      rw [List.getD_eq_getElem?_getD, List.getElem?_take, if_pos hi, List.getElem?_drop, ← List.getD_eq_getElem?_getD]
    rw [unit_cell (j := k % n) (rowV_len d n (k / n) hr) (fun i hi => by rw [rg i hi]; exact okd _) hm (fun i hi => ?_)]
    · rw [rg _ hm, Nat.div_add_mod']
    · have hin : i * n + k % n < n * n := by have := DIM.col_in hk hi; rw [DIM.2.2.2.1] at this; exact this
      have e1 : (i * n + k % n) / n = i := by rw [Nat.mul_comm, Nat.mul_add_div hp, Nat.div_eq_of_lt hm, Nat.add_zero]
      have e2 : (i * n + k % n) % n = k % n := by rw [Nat.mul_comm, Nat.mul_add_mod, Nat.mod_eq_of_lt hm]
      simp only [colV, unitD]
      rw [getD_at (by simpa using hi)]
      simp only [List.getElem_map, List.getElem_range]
      rw [getD_at (by simpa using hin)]
      simp only [List.getElem_map, List.getElem_range, e1, e2]
  have c0 : firstC (fun k => (innerK 43 42 d [(n : Int), (n : Int)] (unitD n) k).2) ((m * n : Nat) : Int).toNat = 0 := firstC_zero _ (fun i hi => by rw [key i hi])
  rw [c0, mkR_good]
  have e3 : (List.range ((m * n : Nat) : Int).toNat).map (fun k => (innerK 43 42 d [(n : Int), (n : Int)] (unitD n) k).1) = d := by
    apply List.ext_getElem
    · rw [List.length_map, List.length_range, hd]; rfl
    · intro i h1 h2
      simp only [List.getElem_map, List.getElem_range]
      rw [key i (by omega), getD_at h2]
  rw [e3]
  rfl
end Go.Proofs.Ythbppjkafbhdaaa
