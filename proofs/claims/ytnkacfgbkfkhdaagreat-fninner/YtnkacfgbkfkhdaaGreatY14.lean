/-
  Several texts, one behind the other: InnerQ, SpecIndex, Extent.
-/
import Derived.Test.YtnkacfgbkfkhdaaGreatY13
import Derived.Test.YtnkacfgbkfkhdaaGreatY12
import Derived.Test.YtnkacfgbkfkhdaaGreatY7
import Derived.LoopN
import Derived.Test.YtnkacfgbkfkhdaaGreatY1
import Derived.Test.YtnkacfgbkfkhdaaGreatY4
namespace Go.Proofs.YtnkacfgbkfkhdaaGreat
set_option linter.unusedVariables false
theorem two_of {l : List Int} (h : l.length = 2) : ∃ x y, l = [x, y] := by
  match l, h with
  | [x, y], _ => exact ⟨x, y, rfl⟩
theorem size_q1 {x : Int} (h : 0 ≤ sizeV [x]) : 0 ≤ x ∧ x ≤ 300 ∧ sizeV [x] = x := by
  obtain ⟨_, k2, _, k4⟩ := sizeV_ok h
  rw [prod1] at k4
  have := dimOk_bd (x := x) (by simpa using k2)
  exact ⟨this.1, this.2, k4⟩
theorem size_q2 {x y : Int} (h : 0 ≤ sizeV [x, y]) : 0 ≤ x ∧ x ≤ 300 ∧ 0 ≤ y ∧ y ≤ 300 ∧ sizeV [x, y] = x * y := by
  obtain ⟨_, k2, _, k4⟩ := sizeV_ok h
  rw [prod2] at k4
  simp only [List.all_cons, List.all_nil, Bool.and_true, Bool.and_eq_true] at k2
  have h1 := dimOk_bd k2.1
  have h2 := dimOk_bd k2.2
  exact ⟨h1.1, h1.2, h2.1, h2.2, k4⟩
/-- The sizes of an inner product. -/
def InnerD (s d t e : List Int) (nR n nC : Nat) : Prop :=
  (s = [(n : Int)] ∧ nR = 1 ∨ s = [(nR : Int), (n : Int)]) ∧ (t = [(n : Int)] ∧ nC = 1 ∨ t = [(n : Int), (nC : Int)]) ∧ d.length = nR * n ∧ e.length = n * nC ∧ nR ≤ 300 ∧ n ≤ 300 ∧ nC ≤ 300
theorem inner_dims {s d t e : List Int} (ho : arrOk s d = true) (ho' : arrOk t e = true) (h1 : s.length = 1 ∨ s.length = 2) (h2 : t.length = 1 ∨ t.length = 2) (hl : s.getD (s.length - 1) 0 = t.getD 0 0) :
    ∃ nR n nC : Nat, InnerD s d t e nR n nC := by
  have z1 := arrOk_size ho
  have z2 := arrOk_size ho'
  have y1 := arrOk_shape ho
  have y2 := arrOk_shape ho'
  have hT : ∃ n nC : Nat, (t = [(n : Int)] ∧ nC = 1 ∨ t = [(n : Int), (nC : Int)]) ∧ e.length = n * nC ∧ n ≤ 300 ∧ nC ≤ 300 ∧ t.getD 0 0 = (n : Int) := by
    rcases h2 with h2 | h2
    · obtain ⟨x, rfl⟩ := List.length_eq_one_iff.1 h2
      obtain ⟨a1, a2, a3⟩ := size_q1 y2
      obtain ⟨n, rfl⟩ := Int.eq_ofNat_of_zero_le a1
      exact ⟨n, 1, .inl ⟨rfl, rfl⟩, by omega, by omega, by omega, rfl⟩
    · obtain ⟨x, y, rfl⟩ := two_of h2
      obtain ⟨a1, a2, a3, a4, a5⟩ := size_q2 y2
      obtain ⟨n, rfl⟩ := Int.eq_ofNat_of_zero_le a1
      obtain ⟨m, rfl⟩ := Int.eq_ofNat_of_zero_le a3
      refine ⟨n, m, .inr rfl, ?_, by omega, by omega, rfl⟩
      have : ((e.length : Nat) : Int) = ((n * m : Nat) : Int) := by rw [← z2, a5]; push_cast; rfl
      exact_mod_cast this
  obtain ⟨n, nC, t1, t2, t3, t4, t5⟩ := hT
  rw [t5] at hl
  rcases h1 with h1 | h1
  · obtain ⟨x, rfl⟩ := List.length_eq_one_iff.1 h1
    obtain ⟨a1, a2, a3⟩ := size_q1 y1
    obtain rfl : x = (n : Int) := hl
    exact ⟨1, n, nC, .inl ⟨rfl, rfl⟩, t1, by omega, t2, by omega, t3, t4⟩
  · obtain ⟨x, y, rfl⟩ := two_of h1
    obtain ⟨a1, a2, a3, a4, a5⟩ := size_q2 y1
    obtain rfl : y = (n : Int) := hl
    obtain ⟨m, rfl⟩ := Int.eq_ofNat_of_zero_le a1
    refine ⟨m, n, nC, .inr rfl, t1, ?_, t2, by omega, t3, t4⟩
    have : ((d.length : Nat) : Int) = ((m * n : Nat) : Int) := by rw [← z1, a5]; push_cast; rfl
    exact_mod_cast this
theorem size_p1 (m : Nat) (h : m ≤ 300) : sizeV [(m : Int)] = (m : Int) := by
  have h1 : dimOk (m : Int) = true := by simp [dimOk]; omega
  unfold sizeV
  rw [if_neg (by simp), if_pos (by simp [h1]), prod1, if_neg (by omega)]
theorem size_p2 (m n : Nat) (h : m ≤ 300) (k : n ≤ 300) : sizeV [(m : Int), (n : Int)] = if 300 < m * n then -1 else ((m * n : Nat) : Int) := by
  have h1 : dimOk (m : Int) = true := by simp [dimOk]; omega
  have h2 : dimOk (n : Int) = true := by simp [dimOk]; omega
  unfold sizeV
  rw [if_neg (by simp), if_pos (by simp [h1, h2]), prod2]
  by_cases hh : 300 < m * n
  · have q := Int.natCast_mul m n
    rw [if_pos hh, if_pos (by omega)]
  · have q := Int.natCast_mul m n
    rw [if_neg hh, if_neg (by omega), q]
namespace InnerD
variable {s d t e : List Int} {nR n nC : Nat}
theorem n0 (h : InnerD s d t e nR n nC) : t.getD 0 0 = (n : Int) := by rcases h.2.1 with ⟨rfl, _⟩ | rfl <;> rfl
theorem nn (h : InnerD s d t e nR n nC) : innerN t = n := by unfold innerN; rw [h.n0]; rfl
theorem wide (h : InnerD s d t e nR n nC) : sizeV (t.drop 1) = (nC : Int) := by
  rcases h.2.1 with ⟨rfl, rfl⟩ | rfl
  · exact sizeV_0'
  · exact size_p1 nC h.2.2.2.2.2.2
theorem wideN (h : InnerD s d t e nR n nC) : innerW t = nC := by unfold innerW; rw [h.wide]; rfl
theorem size (h : InnerD s d t e nR n nC) (hz : 0 ≤ sizeV (innerS s t)) : sizeV (innerS s t) = ((nR * nC : Nat) : Int) := by
  obtain ⟨h1, h2, _, _, h5, h6, h7⟩ := h
  rcases h1 with ⟨rfl, rfl⟩ | rfl <;> rcases h2 with ⟨rfl, rfl⟩ | rfl
  · exact sizeV_0'
  · rw [Nat.one_mul]; exact size_p1 nC h7
  · rw [Nat.mul_one]; exact size_p1 nR h5
  · have e : sizeV (innerS [(nR : Int), (n : Int)] [(n : Int), (nC : Int)]) = sizeV [(nR : Int), (nC : Int)] := rfl
    rw [e, size_p2 nR nC h5 h7] at hz ⊢
    split at hz
    · omega
    · rename_i q; rw [if_neg q]
theorem wide_pos (h : InnerD s d t e nR n nC) {k : Nat} (hk : k < nR * nC) : 0 < nC := by
  rcases Nat.eq_zero_or_pos nC with q | q
  · subst q; simp at hk
  · exact q
theorem row_lt (h : InnerD s d t e nR n nC) {k : Nat} (hk : k < nR * nC) : k / nC < nR := Nat.div_lt_of_lt_mul (by rw [Nat.mul_comm]; exact hk)
theorem row_in (h : InnerD s d t e nR n nC) {k : Nat} (hk : k < nR * nC) : k / nC * n + n ≤ d.length := by
  rw [h.2.2.1]
  have := Nat.mul_le_mul_right n (Nat.succ_le_of_lt (h.row_lt hk))
  rw [Nat.succ_mul] at this
  exact this
theorem col_in (h : InnerD s d t e nR n nC) {k j : Nat} (hk : k < nR * nC) (hj : j < n) : j * nC + k % nC < e.length := by
  rw [h.2.2.2.1]
  have h1 := Nat.mul_le_mul_right nC (Nat.succ_le_of_lt hj)
  rw [Nat.succ_mul] at h1
  have h2 := Nat.mod_lt k (h.wide_pos hk)
  omega
theorem count (h : InnerD s d t e nR n nC) (hz : 0 ≤ sizeV (innerS s t)) : nR * nC ≤ 300 := by
  have h1 := h.size hz
  have h2 := sizeV_bd (innerS s t)
  omega
/-- What stands at a place. -/
theorem at_ (h : InnerD s d t e nR n nC) (f g : Int) (k : Nat) : innerK f g d t e k = cellR f g (rowV d n (k / nC)) (colV e n nC (k % nC)) n := by
  unfold innerK; rw [h.nn, h.wideN]
end InnerD
/-- The columns of a matrix are the rows of it flipped. -/
theorem flip_col {e : List Int} {n m : Nat} (hn : n ≤ 300) (hm : m ≤ 300) (he : e.length = n * m) (hz : n * m ≤ 300) {j : Nat} (hj : j < m) :
    ((flipD [(n : Int), (m : Int)] e).drop (j * n)).take n = colV e n m j := by
  have hx : j * n + n ≤ m * n := by have := Nat.mul_le_mul_right n (Nat.succ_le_of_lt hj); rw [Nat.succ_mul] at this; exact this
  have hl : (flipD [(n : Int), (m : Int)] e).length = n * m := by simp [flipD, he]
  have e1 : sizeV [(m : Int), (n : Int)] = ((m * n : Nat) : Int) := by rw [size_p2 m n hm hn, if_neg (by rw [Nat.mul_comm]; omega)]
  have e2 : sizeV [(n : Int), (m : Int)] = ((n * m : Nat) : Int) := by rw [size_p2 n m hn hm, if_neg (by omega)]
  have mc : m * n = n * m := Nat.mul_comm _ _
  apply List.ext_getElem
  · rw [colV_len, List.length_take, List.length_drop, hl]; omega
  · intro k k1 k2
    rw [colV_len] at k2
    rw [List.getElem_take, List.getElem_drop]
    have hi : j * n + k < n * m := by omega
    have hn0 : 0 < n := by omega
    simp only [flipD, colV, List.getElem_map, List.getElem_range]
    congr 1
    have q1 : indexV [(n : Int), (m : Int)].reverse ((j * n + k : Nat) : Int) = [(j : Int), (k : Int)] := by
      show indexV [(m : Int), (n : Int)] ((j * n + k : Nat) : Int) = _
      unfold indexV
      rw [e1, if_neg (by omega)]
      show [((j * n + k : Nat) : Int) / (n : Int) % (m : Int), ((j * n + k : Nat) : Int) % (n : Int)] = _
      have a1 : (j * n + k) / n = j := by rw [Nat.mul_comm, Nat.mul_add_div hn0, Nat.div_eq_of_lt k2, Nat.add_zero]
      have a2 : (j * n + k) % n = k := by rw [Nat.mul_comm, Nat.mul_add_mod, Nat.mod_eq_of_lt k2]
      have a3 : j % m = j := Nat.mod_eq_of_lt hj
      rw [← Int.natCast_ediv, a1, ← Int.natCast_emod, a3, ← Int.natCast_emod, a2]
    rw [q1]
    show (placeV [(n : Int), (m : Int)] [(k : Int), (j : Int)]).toNat = k * m + j
    have q2 : placeV [(n : Int), (m : Int)] [(k : Int), (j : Int)] = ((k * m + j : Nat) : Int) := by
      unfold placeV
      rw [e2, if_neg (by simp; omega), if_pos (by simp [inOk]; omega)]
      simp [hor]
    rw [q2]; rfl
theorem flip_vec {e : List Int} {n : Nat} (hn : n ≤ 300) (he : e.length = n) : flipD [(n : Int)] e = e ∧ colV e n 1 0 = e := by
  have e1 : sizeV [(n : Int)] = (n : Int) := size_p1 n hn
  constructor
  · apply List.ext_getElem
    · simp [flipD]
    · intro k k1 k2
      simp only [flipD, List.getElem_map, List.getElem_range]
      have q1 : indexV [(n : Int)].reverse (k : Int) = [(k : Int)] := by
        show indexV [(n : Int)] (k : Int) = _
        unfold indexV
        rw [e1, if_neg (by omega)]
        show [(k : Int) % (n : Int)] = _
        rw [← Int.natCast_emod, Nat.mod_eq_of_lt (by omega)]
      rw [q1]
      show e.getD (placeV [(n : Int)] [(k : Int)]).toNat 0 = _
      have q2 : placeV [(n : Int)] [(k : Int)] = (k : Int) := by
        unfold placeV
        rw [e1, if_neg (by simp), if_pos (by simp [inOk]; omega)]
        simp [hor]
      rw [q2]
      simp [k2]
  · apply List.ext_getElem
    · rw [colV_len, he]
    · intro k k1 k2
      simp [colV, k2]
end Go.Proofs.YtnkacfgbkfkhdaaGreat
namespace Go.Proofs.YtnkacfgbkfkhdaaGreat
open Go.RowKit
set_option linter.unusedVariables false
end Go.Proofs.YtnkacfgbkfkhdaaGreat
namespace Go.Proofs.YtnkacfgbkfkhdaaGreat
open Go.RowKit
set_option linter.unusedVariables false
/-- A shape by value: its rank and its numbers, noughts behind them. -/
def extC (l : List Int) : Array Value := #[.int .i64 l.length, .int .i64 (l.getD 0 0), .int .i64 (l.getD 1 0), .int .i64 (l.getD 2 0)]
/-- An index by value. -/
def axC (l : List Int) : Array Value := #[.int .i64 (l.getD 0 0), .int .i64 (l.getD 1 0), .int .i64 (l.getD 2 0)]
set_option maxRecDepth 20000 in
set_option maxHeartbeats 2000000 in
theorem size_0_ext (w : World)  :
    Calls Tryz.prog 71 #[.agg #[.int .i64 0, .int .i64 0, .int .i64 0, .int .i64 0]] w fun e w' => e = .returned (.int .i64 1) ∧ w' = w.alloc (.cells #[.int .i64 0, .int .i64 0, .int .i64 0, .int .i64 0] 75) := by
  go_enter Tryz.func71, Tryz.ntmps71
  go_wp2
  refine wp_loop_rounds 1 ?_
  rw [rounds_succ]
  go_wp2
  go_ret
  exact ⟨rfl, rfl⟩
set_option maxRecDepth 20000 in
set_option maxHeartbeats 2000000 in
theorem size_1_ext (x : Int) (w : World) (x0 : 0 ≤ x) (x1 : x ≤ 300) :
    Calls Tryz.prog 71 #[.agg #[.int .i64 1, .int .i64 x, .int .i64 0, .int .i64 0]] w fun e w' => e = .returned (.int .i64 x) ∧ w' = w.alloc (.cells #[.int .i64 1, .int .i64 x, .int .i64 0, .int .i64 0] 75) := by
  go_enter Tryz.func71, Tryz.ntmps71
  go_wp2
  refine wp_loop_rounds 2 ?_
  rw [rounds_succ]
  go_wp2
  rw [rounds_succ]
  go_wp2
  go_ret
  exact ⟨rfl, rfl⟩
set_option maxRecDepth 20000 in
set_option maxHeartbeats 2000000 in
theorem size_2_ext (x y : Int) (w : World) (x0 : 0 ≤ x) (x1 : x ≤ 300) (y0 : 0 ≤ y) (y1 : y ≤ 300) :
    Calls Tryz.prog 71 #[.agg #[.int .i64 2, .int .i64 x, .int .i64 y, .int .i64 0]] w fun e w' => e = .returned (.int .i64 (x * y)) ∧ w' = w.alloc (.cells #[.int .i64 2, .int .i64 x, .int .i64 y, .int .i64 0] 75) := by
  have h2 : 0 ≤ x * y := Int.mul_nonneg x0 y0
  have h3 : x * y ≤ 90000 := Int.le_trans (Int.mul_le_mul x1 y1 y0 (by omega)) (by decide)
  go_enter Tryz.func71, Tryz.ntmps71
  go_wp2
  refine wp_loop_rounds 3 ?_
  rw [rounds_succ]
  go_wp2
  rw [rounds_succ]
  go_wp2
  rw [rounds_succ]
  go_wp2
  go_ret
  exact ⟨rfl, rfl⟩
set_option maxRecDepth 20000 in
set_option maxHeartbeats 2000000 in
theorem size_3_ext (x y z : Int) (w : World) (x0 : 0 ≤ x) (x1 : x ≤ 300) (y0 : 0 ≤ y) (y1 : y ≤ 300) (z0 : 0 ≤ z) (z1 : z ≤ 300) :
    Calls Tryz.prog 71 #[.agg #[.int .i64 3, .int .i64 x, .int .i64 y, .int .i64 z]] w fun e w' => e = .returned (.int .i64 (x * y * z)) ∧ w' = w.alloc (.cells #[.int .i64 3, .int .i64 x, .int .i64 y, .int .i64 z] 75) := by
  have h2 : 0 ≤ x * y := Int.mul_nonneg x0 y0
  have h3 : x * y ≤ 90000 := Int.le_trans (Int.mul_le_mul x1 y1 y0 (by omega)) (by decide)
  have h4 : 0 ≤ x * y * z := Int.mul_nonneg h2 z0
  have h5 : x * y * z ≤ 27000000 := Int.le_trans (Int.mul_le_mul h3 z1 z0 (by omega)) (by decide)
  go_enter Tryz.func71, Tryz.ntmps71
  go_wp2
  refine wp_loop_rounds 4 ?_
  rw [rounds_succ]
  go_wp2
  rw [rounds_succ]
  go_wp2
  rw [rounds_succ]
  go_wp2
  rw [rounds_succ]
  go_wp2
  go_ret
  exact ⟨rfl, rfl⟩
set_option maxRecDepth 20000 in
set_option maxHeartbeats 2000000 in
theorem ext_0_ok (a : Option Addr) (c : Nat) (w : World) (h1 : Ints w a [])  :
    Calls Tryz.prog 50 #[.slice a 0 c] w fun e w' => e = .returned (.tuple #[.agg #[.int .i64 0, .int .i64 0, .int .i64 0, .int .i64 0], .bool true]) ∧ Below w.heap.size w w' := by
  go_enter Tryz.func50, Tryz.ntmps50
  go_wp2
  refine wp_loop_rounds 1 ?_
  rw [rounds_succ]
  go_wp2_with (go_at_call 71; refine (size_0_ext  _ ).mono ?_; rintro e w' ⟨rfl, hw⟩; subst w')
  go_returns
  exact ⟨rfl, by first | exact bAlloc (bAlloc (bAlloc (Below.refl _ _) _) _) _ | exact bAlloc (bAlloc (Below.refl _ _) _) _ | exact bAlloc (Below.refl _ _) _⟩
set_option maxRecDepth 20000 in
set_option maxHeartbeats 2000000 in
theorem ext_1_neg0 (x : Int) (a : Option Addr) (c : Nat) (w : World) (h1 : Ints w a [x])  (hb : x < 0) :
    Calls Tryz.prog 50 #[.slice a 1 c] w fun e w' => e = .returned (.tuple #[.agg #[.int .i64 0, .int .i64 0, .int .i64 0, .int .i64 0], .bool false]) ∧ Below w.heap.size w w' := by
  rcases h1 with h0 | ⟨b, off, rfl, hb, hc⟩
  · cases h0
  have c0 : w.cell? ⟨b, off, none⟩ = some (.int .i64 x) := hc 0 (by simp)
  clear hc
  go_enter Tryz.func50, Tryz.ntmps50
  go_wp2
  refine wp_loop_rounds 1 ?_
  rw [rounds_succ]
  go_wp2
  go_returns
  exact ⟨rfl, by first | exact bAlloc (bAlloc (bAlloc (Below.refl _ _) _) _) _ | exact bAlloc (bAlloc (Below.refl _ _) _) _ | exact bAlloc (Below.refl _ _) _⟩
set_option maxRecDepth 20000 in
set_option maxHeartbeats 2000000 in
theorem ext_1_great0 (x : Int) (a : Option Addr) (c : Nat) (w : World) (h1 : Ints w a [x])  (hb0 : 0 ≤ x) (hb : 300 < x) :
    Calls Tryz.prog 50 #[.slice a 1 c] w fun e w' => e = .returned (.tuple #[.agg #[.int .i64 0, .int .i64 0, .int .i64 0, .int .i64 0], .bool false]) ∧ Below w.heap.size w w' := by
  rcases h1 with h0 | ⟨b, off, rfl, hb, hc⟩
  · cases h0
  have c0 : w.cell? ⟨b, off, none⟩ = some (.int .i64 x) := hc 0 (by simp)
  clear hc
  go_enter Tryz.func50, Tryz.ntmps50
  go_wp2
  refine wp_loop_rounds 1 ?_
  rw [rounds_succ]
  go_wp2
  go_returns
  exact ⟨rfl, by first | exact bAlloc (bAlloc (bAlloc (Below.refl _ _) _) _) _ | exact bAlloc (bAlloc (Below.refl _ _) _) _ | exact bAlloc (Below.refl _ _) _⟩
set_option maxRecDepth 20000 in
set_option maxHeartbeats 2000000 in
theorem ext_1_ok (x : Int) (a : Option Addr) (c : Nat) (w : World) (h1 : Ints w a [x]) (x0 : 0 ≤ x) (x1 : x ≤ 300) :
    Calls Tryz.prog 50 #[.slice a 1 c] w fun e w' => e = .returned (.tuple #[.agg #[.int .i64 1, .int .i64 x, .int .i64 0, .int .i64 0], .bool true]) ∧ Below w.heap.size w w' := by
  rcases h1 with h0 | ⟨b, off, rfl, hb, hc⟩
  · cases h0
  have c0 : w.cell? ⟨b, off, none⟩ = some (.int .i64 x) := hc 0 (by simp)
  clear hc
  go_enter Tryz.func50, Tryz.ntmps50
  go_wp2
  refine wp_loop_rounds 2 ?_
  rw [rounds_succ]
  go_wp2
  rw [rounds_succ]
  go_wp2_with (go_at_call 71; refine (size_1_ext x _ x0 x1).mono ?_; rintro e w' ⟨rfl, hw⟩; subst w')
  go_returns
  exact ⟨rfl, by first | exact bAlloc (bAlloc (bAlloc (Below.refl _ _) _) _) _ | exact bAlloc (bAlloc (Below.refl _ _) _) _ | exact bAlloc (Below.refl _ _) _⟩
set_option maxRecDepth 20000 in
set_option maxHeartbeats 2000000 in
theorem ext_2_neg0 (x y : Int) (a : Option Addr) (c : Nat) (w : World) (h1 : Ints w a [x, y])  (hb : x < 0) :
    Calls Tryz.prog 50 #[.slice a 2 c] w fun e w' => e = .returned (.tuple #[.agg #[.int .i64 0, .int .i64 0, .int .i64 0, .int .i64 0], .bool false]) ∧ Below w.heap.size w w' := by
  rcases h1 with h0 | ⟨b, off, rfl, hb, hc⟩
  · cases h0
  have c0 : w.cell? ⟨b, off, none⟩ = some (.int .i64 x) := hc 0 (by simp)
  have c1 : w.cell? ⟨b, off + 1, none⟩ = some (.int .i64 y) := hc 1 (by simp)
  clear hc
  go_enter Tryz.func50, Tryz.ntmps50
  go_wp2
  refine wp_loop_rounds 1 ?_
  rw [rounds_succ]
  go_wp2
  go_returns
  exact ⟨rfl, by first | exact bAlloc (bAlloc (bAlloc (Below.refl _ _) _) _) _ | exact bAlloc (bAlloc (Below.refl _ _) _) _ | exact bAlloc (Below.refl _ _) _⟩
set_option maxRecDepth 20000 in
set_option maxHeartbeats 2000000 in
theorem ext_2_great0 (x y : Int) (a : Option Addr) (c : Nat) (w : World) (h1 : Ints w a [x, y])  (hb0 : 0 ≤ x) (hb : 300 < x) :
    Calls Tryz.prog 50 #[.slice a 2 c] w fun e w' => e = .returned (.tuple #[.agg #[.int .i64 0, .int .i64 0, .int .i64 0, .int .i64 0], .bool false]) ∧ Below w.heap.size w w' := by
  rcases h1 with h0 | ⟨b, off, rfl, hb, hc⟩
  · cases h0
  have c0 : w.cell? ⟨b, off, none⟩ = some (.int .i64 x) := hc 0 (by simp)
  have c1 : w.cell? ⟨b, off + 1, none⟩ = some (.int .i64 y) := hc 1 (by simp)
  clear hc
  go_enter Tryz.func50, Tryz.ntmps50
  go_wp2
  refine wp_loop_rounds 1 ?_
  rw [rounds_succ]
  go_wp2
  go_returns
  exact ⟨rfl, by first | exact bAlloc (bAlloc (bAlloc (Below.refl _ _) _) _) _ | exact bAlloc (bAlloc (Below.refl _ _) _) _ | exact bAlloc (Below.refl _ _) _⟩
set_option maxRecDepth 20000 in
set_option maxHeartbeats 2000000 in
theorem ext_2_neg1 (x y : Int) (a : Option Addr) (c : Nat) (w : World) (h1 : Ints w a [x, y]) (x0 : 0 ≤ x) (x1 : x ≤ 300) (hb : y < 0) :
    Calls Tryz.prog 50 #[.slice a 2 c] w fun e w' => e = .returned (.tuple #[.agg #[.int .i64 0, .int .i64 0, .int .i64 0, .int .i64 0], .bool false]) ∧ Below w.heap.size w w' := by
  rcases h1 with h0 | ⟨b, off, rfl, hb, hc⟩
  · cases h0
  have c0 : w.cell? ⟨b, off, none⟩ = some (.int .i64 x) := hc 0 (by simp)
  have c1 : w.cell? ⟨b, off + 1, none⟩ = some (.int .i64 y) := hc 1 (by simp)
  clear hc
  go_enter Tryz.func50, Tryz.ntmps50
  go_wp2
  refine wp_loop_rounds 2 ?_
  rw [rounds_succ]
  go_wp2
  rw [rounds_succ]
  go_wp2
  go_returns
  exact ⟨rfl, by first | exact bAlloc (bAlloc (bAlloc (Below.refl _ _) _) _) _ | exact bAlloc (bAlloc (Below.refl _ _) _) _ | exact bAlloc (Below.refl _ _) _⟩
set_option maxRecDepth 20000 in
set_option maxHeartbeats 2000000 in
theorem ext_2_great1 (x y : Int) (a : Option Addr) (c : Nat) (w : World) (h1 : Ints w a [x, y]) (x0 : 0 ≤ x) (x1 : x ≤ 300) (hb0 : 0 ≤ y) (hb : 300 < y) :
    Calls Tryz.prog 50 #[.slice a 2 c] w fun e w' => e = .returned (.tuple #[.agg #[.int .i64 0, .int .i64 0, .int .i64 0, .int .i64 0], .bool false]) ∧ Below w.heap.size w w' := by
  rcases h1 with h0 | ⟨b, off, rfl, hb, hc⟩
  · cases h0
  have c0 : w.cell? ⟨b, off, none⟩ = some (.int .i64 x) := hc 0 (by simp)
  have c1 : w.cell? ⟨b, off + 1, none⟩ = some (.int .i64 y) := hc 1 (by simp)
  clear hc
  go_enter Tryz.func50, Tryz.ntmps50
  go_wp2
  refine wp_loop_rounds 2 ?_
  rw [rounds_succ]
  go_wp2
  rw [rounds_succ]
  go_wp2
  go_returns
  exact ⟨rfl, by first | exact bAlloc (bAlloc (bAlloc (Below.refl _ _) _) _) _ | exact bAlloc (bAlloc (Below.refl _ _) _) _ | exact bAlloc (Below.refl _ _) _⟩
set_option maxRecDepth 20000 in
set_option maxHeartbeats 2000000 in
theorem ext_2_ok (x y : Int) (a : Option Addr) (c : Nat) (w : World) (h1 : Ints w a [x, y]) (x0 : 0 ≤ x) (x1 : x ≤ 300) (y0 : 0 ≤ y) (y1 : y ≤ 300) (hp : x * y ≤ 300) :
    Calls Tryz.prog 50 #[.slice a 2 c] w fun e w' => e = .returned (.tuple #[.agg #[.int .i64 2, .int .i64 x, .int .i64 y, .int .i64 0], .bool true]) ∧ Below w.heap.size w w' := by
  have h2 : 0 ≤ x * y := Int.mul_nonneg x0 y0
  have h3 : x * y ≤ 90000 := Int.le_trans (Int.mul_le_mul x1 y1 y0 (by omega)) (by decide)
  rcases h1 with h0 | ⟨b, off, rfl, hb, hc⟩
  · cases h0
  have c0 : w.cell? ⟨b, off, none⟩ = some (.int .i64 x) := hc 0 (by simp)
  have c1 : w.cell? ⟨b, off + 1, none⟩ = some (.int .i64 y) := hc 1 (by simp)
  clear hc
  go_enter Tryz.func50, Tryz.ntmps50
  go_wp2
  refine wp_loop_rounds 3 ?_
  rw [rounds_succ]
  go_wp2
  rw [rounds_succ]
  go_wp2
  rw [rounds_succ]
  go_wp2_with (go_at_call 71; refine (size_2_ext x y _ x0 x1 y0 y1).mono ?_; rintro e w' ⟨rfl, hw⟩; subst w')
  go_returns
  exact ⟨rfl, by first | exact bAlloc (bAlloc (bAlloc (Below.refl _ _) _) _) _ | exact bAlloc (bAlloc (Below.refl _ _) _) _ | exact bAlloc (Below.refl _ _) _⟩
set_option maxRecDepth 20000 in
set_option maxHeartbeats 2000000 in
theorem ext_2_much (x y : Int) (a : Option Addr) (c : Nat) (w : World) (h1 : Ints w a [x, y]) (x0 : 0 ≤ x) (x1 : x ≤ 300) (y0 : 0 ≤ y) (y1 : y ≤ 300) (hp : 300 < x * y) :
    Calls Tryz.prog 50 #[.slice a 2 c] w fun e w' => e = .returned (.tuple #[.agg #[.int .i64 0, .int .i64 0, .int .i64 0, .int .i64 0], .bool false]) ∧ Below w.heap.size w w' := by
  have h2 : 0 ≤ x * y := Int.mul_nonneg x0 y0
  have h3 : x * y ≤ 90000 := Int.le_trans (Int.mul_le_mul x1 y1 y0 (by omega)) (by decide)
  rcases h1 with h0 | ⟨b, off, rfl, hb, hc⟩
  · cases h0
  have c0 : w.cell? ⟨b, off, none⟩ = some (.int .i64 x) := hc 0 (by simp)
  have c1 : w.cell? ⟨b, off + 1, none⟩ = some (.int .i64 y) := hc 1 (by simp)
  clear hc
  go_enter Tryz.func50, Tryz.ntmps50
  go_wp2
  refine wp_loop_rounds 3 ?_
  rw [rounds_succ]
  go_wp2
  rw [rounds_succ]
  go_wp2
  rw [rounds_succ]
  go_wp2_with (go_at_call 71; refine (size_2_ext x y _ x0 x1 y0 y1).mono ?_; rintro e w' ⟨rfl, hw⟩; subst w')
  go_returns
  exact ⟨rfl, by first | exact bAlloc (bAlloc (bAlloc (Below.refl _ _) _) _) _ | exact bAlloc (bAlloc (Below.refl _ _) _) _ | exact bAlloc (Below.refl _ _) _⟩
set_option maxRecDepth 20000 in
set_option maxHeartbeats 2000000 in
theorem ext_3_neg0 (x y z : Int) (a : Option Addr) (c : Nat) (w : World) (h1 : Ints w a [x, y, z])  (hb : x < 0) :
    Calls Tryz.prog 50 #[.slice a 3 c] w fun e w' => e = .returned (.tuple #[.agg #[.int .i64 0, .int .i64 0, .int .i64 0, .int .i64 0], .bool false]) ∧ Below w.heap.size w w' := by
  rcases h1 with h0 | ⟨b, off, rfl, hb, hc⟩
  · cases h0
  have c0 : w.cell? ⟨b, off, none⟩ = some (.int .i64 x) := hc 0 (by simp)
  have c1 : w.cell? ⟨b, off + 1, none⟩ = some (.int .i64 y) := hc 1 (by simp)
  have c2 : w.cell? ⟨b, off + 2, none⟩ = some (.int .i64 z) := hc 2 (by simp)
  clear hc
  go_enter Tryz.func50, Tryz.ntmps50
  go_wp2
  refine wp_loop_rounds 1 ?_
  rw [rounds_succ]
  go_wp2
  go_returns
  exact ⟨rfl, by first | exact bAlloc (bAlloc (bAlloc (Below.refl _ _) _) _) _ | exact bAlloc (bAlloc (Below.refl _ _) _) _ | exact bAlloc (Below.refl _ _) _⟩
set_option maxRecDepth 20000 in
set_option maxHeartbeats 2000000 in
theorem ext_3_great0 (x y z : Int) (a : Option Addr) (c : Nat) (w : World) (h1 : Ints w a [x, y, z])  (hb0 : 0 ≤ x) (hb : 300 < x) :
    Calls Tryz.prog 50 #[.slice a 3 c] w fun e w' => e = .returned (.tuple #[.agg #[.int .i64 0, .int .i64 0, .int .i64 0, .int .i64 0], .bool false]) ∧ Below w.heap.size w w' := by
  rcases h1 with h0 | ⟨b, off, rfl, hb, hc⟩
  · cases h0
  have c0 : w.cell? ⟨b, off, none⟩ = some (.int .i64 x) := hc 0 (by simp)
  have c1 : w.cell? ⟨b, off + 1, none⟩ = some (.int .i64 y) := hc 1 (by simp)
  have c2 : w.cell? ⟨b, off + 2, none⟩ = some (.int .i64 z) := hc 2 (by simp)
  clear hc
  go_enter Tryz.func50, Tryz.ntmps50
  go_wp2
  refine wp_loop_rounds 1 ?_
  rw [rounds_succ]
  go_wp2
  go_returns
  exact ⟨rfl, by first | exact bAlloc (bAlloc (bAlloc (Below.refl _ _) _) _) _ | exact bAlloc (bAlloc (Below.refl _ _) _) _ | exact bAlloc (Below.refl _ _) _⟩
set_option maxRecDepth 20000 in
set_option maxHeartbeats 2000000 in
theorem ext_3_neg1 (x y z : Int) (a : Option Addr) (c : Nat) (w : World) (h1 : Ints w a [x, y, z]) (x0 : 0 ≤ x) (x1 : x ≤ 300) (hb : y < 0) :
    Calls Tryz.prog 50 #[.slice a 3 c] w fun e w' => e = .returned (.tuple #[.agg #[.int .i64 0, .int .i64 0, .int .i64 0, .int .i64 0], .bool false]) ∧ Below w.heap.size w w' := by
  rcases h1 with h0 | ⟨b, off, rfl, hb, hc⟩
  · cases h0
  have c0 : w.cell? ⟨b, off, none⟩ = some (.int .i64 x) := hc 0 (by simp)
  have c1 : w.cell? ⟨b, off + 1, none⟩ = some (.int .i64 y) := hc 1 (by simp)
  have c2 : w.cell? ⟨b, off + 2, none⟩ = some (.int .i64 z) := hc 2 (by simp)
  clear hc
  go_enter Tryz.func50, Tryz.ntmps50
  go_wp2
  refine wp_loop_rounds 2 ?_
  rw [rounds_succ]
  go_wp2
  rw [rounds_succ]
  go_wp2
  go_returns
  exact ⟨rfl, by first | exact bAlloc (bAlloc (bAlloc (Below.refl _ _) _) _) _ | exact bAlloc (bAlloc (Below.refl _ _) _) _ | exact bAlloc (Below.refl _ _) _⟩
set_option maxRecDepth 20000 in
set_option maxHeartbeats 2000000 in
theorem ext_3_great1 (x y z : Int) (a : Option Addr) (c : Nat) (w : World) (h1 : Ints w a [x, y, z]) (x0 : 0 ≤ x) (x1 : x ≤ 300) (hb0 : 0 ≤ y) (hb : 300 < y) :
    Calls Tryz.prog 50 #[.slice a 3 c] w fun e w' => e = .returned (.tuple #[.agg #[.int .i64 0, .int .i64 0, .int .i64 0, .int .i64 0], .bool false]) ∧ Below w.heap.size w w' := by
  rcases h1 with h0 | ⟨b, off, rfl, hb, hc⟩
  · cases h0
  have c0 : w.cell? ⟨b, off, none⟩ = some (.int .i64 x) := hc 0 (by simp)
  have c1 : w.cell? ⟨b, off + 1, none⟩ = some (.int .i64 y) := hc 1 (by simp)
  have c2 : w.cell? ⟨b, off + 2, none⟩ = some (.int .i64 z) := hc 2 (by simp)
  clear hc
  go_enter Tryz.func50, Tryz.ntmps50
  go_wp2
  refine wp_loop_rounds 2 ?_
  rw [rounds_succ]
  go_wp2
  rw [rounds_succ]
  go_wp2
  go_returns
  exact ⟨rfl, by first | exact bAlloc (bAlloc (bAlloc (Below.refl _ _) _) _) _ | exact bAlloc (bAlloc (Below.refl _ _) _) _ | exact bAlloc (Below.refl _ _) _⟩
set_option maxRecDepth 20000 in
set_option maxHeartbeats 2000000 in
theorem ext_3_neg2 (x y z : Int) (a : Option Addr) (c : Nat) (w : World) (h1 : Ints w a [x, y, z]) (x0 : 0 ≤ x) (x1 : x ≤ 300) (y0 : 0 ≤ y) (y1 : y ≤ 300) (hb : z < 0) :
    Calls Tryz.prog 50 #[.slice a 3 c] w fun e w' => e = .returned (.tuple #[.agg #[.int .i64 0, .int .i64 0, .int .i64 0, .int .i64 0], .bool false]) ∧ Below w.heap.size w w' := by
  rcases h1 with h0 | ⟨b, off, rfl, hb, hc⟩
  · cases h0
  have c0 : w.cell? ⟨b, off, none⟩ = some (.int .i64 x) := hc 0 (by simp)
  have c1 : w.cell? ⟨b, off + 1, none⟩ = some (.int .i64 y) := hc 1 (by simp)
  have c2 : w.cell? ⟨b, off + 2, none⟩ = some (.int .i64 z) := hc 2 (by simp)
  clear hc
  go_enter Tryz.func50, Tryz.ntmps50
  go_wp2
  refine wp_loop_rounds 3 ?_
  rw [rounds_succ]
  go_wp2
  rw [rounds_succ]
  go_wp2
  rw [rounds_succ]
  go_wp2
  go_returns
  exact ⟨rfl, by first | exact bAlloc (bAlloc (bAlloc (Below.refl _ _) _) _) _ | exact bAlloc (bAlloc (Below.refl _ _) _) _ | exact bAlloc (Below.refl _ _) _⟩
set_option maxRecDepth 20000 in
set_option maxHeartbeats 2000000 in
theorem ext_3_great2 (x y z : Int) (a : Option Addr) (c : Nat) (w : World) (h1 : Ints w a [x, y, z]) (x0 : 0 ≤ x) (x1 : x ≤ 300) (y0 : 0 ≤ y) (y1 : y ≤ 300) (hb0 : 0 ≤ z) (hb : 300 < z) :
    Calls Tryz.prog 50 #[.slice a 3 c] w fun e w' => e = .returned (.tuple #[.agg #[.int .i64 0, .int .i64 0, .int .i64 0, .int .i64 0], .bool false]) ∧ Below w.heap.size w w' := by
  rcases h1 with h0 | ⟨b, off, rfl, hb, hc⟩
  · cases h0
  have c0 : w.cell? ⟨b, off, none⟩ = some (.int .i64 x) := hc 0 (by simp)
  have c1 : w.cell? ⟨b, off + 1, none⟩ = some (.int .i64 y) := hc 1 (by simp)
  have c2 : w.cell? ⟨b, off + 2, none⟩ = some (.int .i64 z) := hc 2 (by simp)
  clear hc
  go_enter Tryz.func50, Tryz.ntmps50
  go_wp2
  refine wp_loop_rounds 3 ?_
  rw [rounds_succ]
  go_wp2
  rw [rounds_succ]
  go_wp2
  rw [rounds_succ]
  go_wp2
  go_returns
  exact ⟨rfl, by first | exact bAlloc (bAlloc (bAlloc (Below.refl _ _) _) _) _ | exact bAlloc (bAlloc (Below.refl _ _) _) _ | exact bAlloc (Below.refl _ _) _⟩
set_option maxRecDepth 20000 in
set_option maxHeartbeats 2000000 in
theorem ext_3_ok (x y z : Int) (a : Option Addr) (c : Nat) (w : World) (h1 : Ints w a [x, y, z]) (x0 : 0 ≤ x) (x1 : x ≤ 300) (y0 : 0 ≤ y) (y1 : y ≤ 300) (z0 : 0 ≤ z) (z1 : z ≤ 300) (hp : x * y * z ≤ 300) :
    Calls Tryz.prog 50 #[.slice a 3 c] w fun e w' => e = .returned (.tuple #[.agg #[.int .i64 3, .int .i64 x, .int .i64 y, .int .i64 z], .bool true]) ∧ Below w.heap.size w w' := by
  have h2 : 0 ≤ x * y := Int.mul_nonneg x0 y0
  have h3 : x * y ≤ 90000 := Int.le_trans (Int.mul_le_mul x1 y1 y0 (by omega)) (by decide)
  have h4 : 0 ≤ x * y * z := Int.mul_nonneg h2 z0
  have h5 : x * y * z ≤ 27000000 := Int.le_trans (Int.mul_le_mul h3 z1 z0 (by omega)) (by decide)
  rcases h1 with h0 | ⟨b, off, rfl, hb, hc⟩
  · cases h0
  have c0 : w.cell? ⟨b, off, none⟩ = some (.int .i64 x) := hc 0 (by simp)
  have c1 : w.cell? ⟨b, off + 1, none⟩ = some (.int .i64 y) := hc 1 (by simp)
  have c2 : w.cell? ⟨b, off + 2, none⟩ = some (.int .i64 z) := hc 2 (by simp)
  clear hc
  go_enter Tryz.func50, Tryz.ntmps50
  go_wp2
  refine wp_loop_rounds 4 ?_
  rw [rounds_succ]
  go_wp2
  rw [rounds_succ]
  go_wp2
  rw [rounds_succ]
  go_wp2
  rw [rounds_succ]
  go_wp2_with (go_at_call 71; refine (size_3_ext x y z _ x0 x1 y0 y1 z0 z1).mono ?_; rintro e w' ⟨rfl, hw⟩; subst w')
  go_returns
  exact ⟨rfl, by first | exact bAlloc (bAlloc (bAlloc (Below.refl _ _) _) _) _ | exact bAlloc (bAlloc (Below.refl _ _) _) _ | exact bAlloc (Below.refl _ _) _⟩
set_option maxRecDepth 20000 in
set_option maxHeartbeats 2000000 in
theorem ext_3_much (x y z : Int) (a : Option Addr) (c : Nat) (w : World) (h1 : Ints w a [x, y, z]) (x0 : 0 ≤ x) (x1 : x ≤ 300) (y0 : 0 ≤ y) (y1 : y ≤ 300) (z0 : 0 ≤ z) (z1 : z ≤ 300) (hp : 300 < x * y * z) :
    Calls Tryz.prog 50 #[.slice a 3 c] w fun e w' => e = .returned (.tuple #[.agg #[.int .i64 0, .int .i64 0, .int .i64 0, .int .i64 0], .bool false]) ∧ Below w.heap.size w w' := by
  have h2 : 0 ≤ x * y := Int.mul_nonneg x0 y0
  have h3 : x * y ≤ 90000 := Int.le_trans (Int.mul_le_mul x1 y1 y0 (by omega)) (by decide)
  have h4 : 0 ≤ x * y * z := Int.mul_nonneg h2 z0
  have h5 : x * y * z ≤ 27000000 := Int.le_trans (Int.mul_le_mul h3 z1 z0 (by omega)) (by decide)
  rcases h1 with h0 | ⟨b, off, rfl, hb, hc⟩
  · cases h0
  have c0 : w.cell? ⟨b, off, none⟩ = some (.int .i64 x) := hc 0 (by simp)
  have c1 : w.cell? ⟨b, off + 1, none⟩ = some (.int .i64 y) := hc 1 (by simp)
  have c2 : w.cell? ⟨b, off + 2, none⟩ = some (.int .i64 z) := hc 2 (by simp)
  clear hc
  go_enter Tryz.func50, Tryz.ntmps50
  go_wp2
  refine wp_loop_rounds 4 ?_
  rw [rounds_succ]
  go_wp2
  rw [rounds_succ]
  go_wp2
  rw [rounds_succ]
  go_wp2
  rw [rounds_succ]
  go_wp2_with (go_at_call 71; refine (size_3_ext x y z _ x0 x1 y0 y1 z0 z1).mono ?_; rintro e w' ⟨rfl, hw⟩; subst w')
  go_returns
  exact ⟨rfl, by first | exact bAlloc (bAlloc (bAlloc (Below.refl _ _) _) _) _ | exact bAlloc (bAlloc (Below.refl _ _) _) _ | exact bAlloc (Below.refl _ _) _⟩
set_option maxRecDepth 20000 in
set_option maxHeartbeats 2000000 in
theorem ext_long (l : List Int) (a : Option Addr) (c : Nat) (w : World) (hl : 3 < l.length) :
    Calls Tryz.prog 50 #[.slice a l.length c] w fun e w' => e = .returned (.tuple #[.agg #[.int .i64 0, .int .i64 0, .int .i64 0, .int .i64 0], .bool false]) ∧ Below w.heap.size w w' := by
  have hl' : (3 : Int) < (l.length : Int) := by omega
  go_enter Tryz.func50, Tryz.ntmps50
  go_wp2
  go_returns
  exact ⟨rfl, bAlloc (Below.refl _ _) _⟩
end Go.Proofs.YtnkacfgbkfkhdaaGreat
