/-
  Plain: a matrix times the one with ones from corner to corner is itself; no Go in sight.
-/
import Derived.Test.YtbmkfmppcojcgaaInnerQ
import Derived.Test.YtbmkfmppcojcgaaRedW
namespace Go.Proofs.Ytbmkfmppcojcgaa
set_option linter.unusedVariables false
def ups (n : Nat) : List Int := (List.range n).map (fun (i : Nat) => (i : Int))
def unitD (n : Nat) : List Int := (List.range (n * n)).map (fun k => if k / n = k % n then 1 else 0)
theorem getD_at {l : List Int} {i : Nat} (h : i < l.length) : l.getD i 0 = l[i] := by simp [h]
theorem getD_out {l : List Int} {i : Nat} (h : l.length ≤ i) : l.getD i 0 = 0 := by simp [List.getD, List.getElem?_eq_none h]
theorem six_cases {n : Nat} (h : n ≤ 6) : n = 0 ∨ n = 1 ∨ n = 2 ∨ n = 3 ∨ n = 4 ∨ n = 5 ∨ n = 6 := by omega
theorem unit_iota {n : Nat} (h : n ≤ 6) : iotaR [] [(n : Int)] = (0, [(n : Int)], ups n) := by
  rcases six_cases h with rfl | rfl | rfl | rfl | rfl | rfl | rfl <;> decide
theorem unit_outer {n : Nat} (h : n ≤ 6) : outerR 61 [(n : Int)] (ups n) [(n : Int)] (ups n) = (0, [(n : Int), (n : Int)], unitD n) := by
  rcases six_cases h with rfl | rfl | rfl | rfl | rfl | rfl | rfl <;> decide
theorem firstC_zero {g : Nat → Int} : ∀ n, (∀ i, i < n → g i = 0) → firstC g n = 0
  | 0, _ => rfl
  | n + 1, h => firstC_go (firstC_zero n (fun i hi => h i (by omega))) (h n (by omega))
theorem two_one {r : Int} (h : ok r = true) : twoV 42 r 1 = (r, 0) := by
  rw [twoV_42 h (by decide), Int.mul_one, (lim_yes h).1, (lim_yes h).2]
theorem two_nought {r : Int} (h : ok r = true) : twoV 42 r 0 = (0, 0) := by
  rw [twoV_42 h (by decide), Int.mul_zero, (lim_yes (by decide)).1, (lim_yes (by decide)).2]
theorem sum_left {r : Int} (h : ok r = true) : twoV 43 0 r = (r, 0) := by
  rw [twoV_43 (by decide) h, Int.zero_add, (lim_yes h).1, (lim_yes h).2]
theorem sum_right {r : Int} (h : ok r = true) : twoV 43 r 0 = (r, 0) := by
  rw [twoV_43 h (by decide), Int.add_zero, (lim_yes h).1, (lim_yes h).2]
theorem redW_step {x v : Int} {xs : List Int} (hx : xs ≠ []) (h : redW 43 xs = (0, v)) : redW 43 (x :: xs) = ((twoV 43 x v).2, (twoV 43 x v).1) := by
  rw [redW, if_neg hx, h, if_pos rfl]
theorem redW_noughts (b : Nat) : redW 43 (List.replicate (b + 1) 0) = (0, 0) := by
  induction b with
  | zero => rfl
  | succ b ih =>
    rw [List.replicate_succ, redW_step (by simp) ih]
    rfl
theorem redW_head {r : Int} (h : ok r = true) (b : Nat) : redW 43 (r :: List.replicate b 0) = (0, r) := by
  cases b with
  | zero => rw [List.replicate_zero, redW, if_pos rfl]
  | succ b => rw [redW_step (by simp) (redW_noughts b), sum_right h]
theorem redW_unit {r : Int} (h : ok r = true) (a b : Nat) : redW 43 (List.replicate a 0 ++ r :: List.replicate b 0) = (0, r) := by
  induction a with
  | zero => rw [List.replicate_zero, List.nil_append]; exact redW_head h b
  | succ a ih => rw [List.replicate_succ, List.cons_append, redW_step (by simp) ih, sum_left h]
/-- One number of it. -/
theorem unit_cell {n j : Nat} {row col : List Int} (hl : row.length = n) (ho : ∀ i, i < n → ok (row.getD i 0) = true) (hj : j < n) (hc : ∀ i, i < n → col.getD i 0 = if i = j then 1 else 0) : cellR 43 42 row col n = (row.getD j 0, 0) := by
  have tw : ∀ i, i < n → twoV 42 (row.getD i 0) (col.getD i 0) = (if i = j then row.getD j 0 else 0, 0) := fun i hi => by
    rw [hc i hi]
    by_cases e : i = j
    · subst e; rw [if_pos rfl, if_pos rfl]; exact two_one (ho i hi)
    · rw [if_neg e, if_neg e]; exact two_nought (ho i hi)
  have p0 : pairC 42 row col n = 0 := firstC_zero n (fun i hi => by show (twoV 42 (row.getD i 0) (col.getD i 0)).2 = 0; rw [tw i hi])
  have pr : pairR 42 row col n = (List.replicate j 0 ++ row.getD j 0 :: List.replicate (n - 1 - j) 0).map (fun x => [x]) := by
    apply List.ext_getElem
    · rw [pairR_len]; simp; omega
    · intro i h1 h2
      rw [pairR_len] at h1
      simp only [pairR, List.getElem_map, List.getElem_range]
      rw [tw i h1]
      congr 1
      rw [List.getElem_append]
      by_cases e : i = j
      · subst e; simp
      · rw [if_neg e]
        by_cases l : i < j
        · simp [l]
        · simp only [List.length_replicate, l, dite_false]
          obtain ⟨p, hp⟩ : ∃ p, i - j = p + 1 := ⟨i - j - 1, by omega⟩
          simp [hp]
  have okL : ∀ x ∈ List.replicate j 0 ++ row.getD j 0 :: List.replicate (n - 1 - j) 0, ok x = true := by
    intro x hx
    rw [List.mem_append, List.mem_cons] at hx
    rcases hx with hx | hx | hx
    · rw [(List.mem_replicate.1 hx).2]; decide
    · rw [hx]; exact ho j hj
    · rw [(List.mem_replicate.1 hx).2]; decide
  have q := redL_vec (g := 43) (by decide) (l := List.replicate j 0 ++ row.getD j 0 :: List.replicate (n - 1 - j) 0) (by simp) okL
  rw [redW_unit (ho j hj), if_pos rfl, ← pr] at q
  unfold cellR
  rw [if_pos p0, if_neg (by omega), q, if_pos rfl]
  rfl
theorem unit_inner {m n : Nat} {d : List Int} (ho : arrOk [(m : Int), (n : Int)] d = true) (hu : arrOk [(n : Int), (n : Int)] (unitD n) = true) :
    innerR 43 42 [(m : Int), (n : Int)] d [(n : Int), (n : Int)] (unitD n) = (0, [(m : Int), (n : Int)], d) := by
  have hz := arrOk_shape ho
  obtain ⟨a1, a2, a3, a4, a5⟩ := size_q2 hz
  have hlen := arrOk_size ho
  have hd : d.length = m * n := by
    have : ((d.length : Nat) : Int) = ((m * n : Nat) : Int) := by rw [← hlen, a5]; push_cast; rfl
    exact_mod_cast this
  have hsz : sizeV (innerS [(m : Int), (n : Int)] [(n : Int), (n : Int)]) = ((m * n : Nat) : Int) := by
    show sizeV [(m : Int), (n : Int)] = _
    rw [hlen, hd]
  have DIM : InnerD [(m : Int), (n : Int)] d [(n : Int), (n : Int)] (unitD n) m n n := ⟨.inr rfl, .inr rfl, hd, by simp [unitD], by omega, by omega, by omega⟩
  rw [innerR_told ⟨ho, hu, by decide, by decide⟩, if_pos ⟨.inr rfl, .inr rfl⟩, if_neg (by simp), if_neg (by rw [hsz]; omega), hsz]
  have okd : ∀ i, ok (d.getD i 0) = true := fun i => by
    have := ho
    simp only [arrOk, Bool.and_eq_true] at this
    by_cases hi : i < d.length
    · have := List.all_eq_true.1 this.2 d[i] (List.getElem_mem hi)
      rw [getD_at hi]; exact this
    · rw [getD_out (by omega)]; decide
  have key : ∀ k, k < m * n → innerK 43 42 d [(n : Int), (n : Int)] (unitD n) k = (d.getD k 0, 0) := fun k hk => by
    have hp := DIM.wide_pos hk
    have hm := Nat.mod_lt k hp
    have hr := DIM.row_in hk
    rw [DIM.at_]
    have rg : ∀ i, i < n → (rowV d n (k / n)).getD i 0 = d.getD (k / n * n + i) 0 := fun i hi => by
      unfold rowV
      rw [List.getD_eq_getElem?_getD, List.getElem?_take, if_pos hi, List.getElem?_drop, ← List.getD_eq_getElem?_getD]
    rw [unit_cell (j := k % n) (rowV_len d n (k / n) hr) (fun i hi => by rw [rg i hi]; exact okd _) hm (fun i hi => ?_)]
    · rw [rg _ hm, Nat.div_add_mod']
    · have hin : i * n + k % n < n * n := by have := DIM.col_in hk hi; rw [DIM.2.2.2.1] at this; exact this
      have e1 : (i * n + k % n) / n = i := by rw [Nat.mul_comm, Nat.mul_add_div hp, Nat.div_eq_of_lt hm, Nat.add_zero]
      have e2 : (i * n + k % n) % n = k % n := by rw [Nat.mul_comm, Nat.mul_add_mod, Nat.mod_eq_of_lt hm]
      simp only [colV, unitD]
      rw [getD_at (by simpa using hi)]
      simp only [List.getElem_map, List.getElem_range]
      rw [getD_at (by simpa using hin)]
      simp only [List.getElem_map, List.getElem_range, e1, e2]
  have c0 : firstC (fun k => (innerK 43 42 d [(n : Int), (n : Int)] (unitD n) k).2) ((m * n : Nat) : Int).toNat = 0 := firstC_zero _ (fun i hi => by rw [key i hi])
  rw [c0, mkR_good]
  have e3 : (List.range ((m * n : Nat) : Int).toNat).map (fun k => (innerK 43 42 d [(n : Int), (n : Int)] (unitD n) k).1) = d := by
    apply List.ext_getElem
    · rw [List.length_map, List.length_range, hd]; rfl
    · intro i h1 h2
      simp only [List.getElem_map, List.getElem_range]
      rw [key i (by omega), getD_at h2]
  rw [e3]
  rfl
end Go.Proofs.Ytbmkfmppcojcgaa
