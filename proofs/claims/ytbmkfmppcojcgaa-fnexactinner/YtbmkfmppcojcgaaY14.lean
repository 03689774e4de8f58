/-
  Several texts, one behind the other: InnerQ, InnerL, SpecArr2.
-/
import Derived.Test.YtbmkfmppcojcgaaY13
import Derived.Test.YtbmkfmppcojcgaaY12
import Derived.Test.YtbmkfmppcojcgaaY7
import Derived.OwnWalk
import Derived.Laws.ResultCell
namespace Go.Proofs.Ytbmkfmppcojcgaa
set_option linter.unusedVariables false
theorem two_of {l : List Int} (h : l.length = 2) : ∃ x y, l = [x, y] := by
  match l, h with
  | [x, y], _ => exact ⟨x, y, rfl⟩
theorem size_q1 {x : Int} (h : 0 ≤ sizeV [x]) : 0 ≤ x ∧ x ≤ 300 ∧ sizeV [x] = x := by
  obtain ⟨_, k2, _, k4⟩ := sizeV_ok h
  rw [prod1] at k4
  have := dimOk_bd (x := x) (by simpa using k2)
  exact ⟨this.1, this.2, k4⟩
theorem size_q2 {x y : Int} (h : 0 ≤ sizeV [x, y]) : 0 ≤ x ∧ x ≤ 300 ∧ 0 ≤ y ∧ y ≤ 300 ∧ sizeV [x, y] = x * y := by
  obtain ⟨_, k2, _, k4⟩ := sizeV_ok h
  rw [prod2] at k4
  simp only [List.all_cons, List.all_nil, Bool.and_true, Bool.and_eq_true] at k2
  have h1 := dimOk_bd k2.1
  have h2 := dimOk_bd k2.2
  exact ⟨h1.1, h1.2, h2.1, h2.2, k4⟩
/-- The sizes of an inner product. -/
def InnerD (s d t e : List Int) (nR n nC : Nat) : Prop :=
  (s = [(n : Int)] ∧ nR = 1 ∨ s = [(nR : Int), (n : Int)]) ∧ (t = [(n : Int)] ∧ nC = 1 ∨ t = [(n : Int), (nC : Int)]) ∧ d.length = nR * n ∧ e.length = n * nC ∧ nR ≤ 300 ∧ n ≤ 300 ∧ nC ≤ 300
theorem inner_dims {s d t e : List Int} (ho : arrOk s d = true) (ho' : arrOk t e = true) (h1 : s.length = 1 ∨ s.length = 2) (h2 : t.length = 1 ∨ t.length = 2) (hl : s.getD (s.length - 1) 0 = t.getD 0 0) :
    ∃ nR n nC : Nat, InnerD s d t e nR n nC := by
  have z1 := arrOk_size ho
  have z2 := arrOk_size ho'
  have y1 := arrOk_shape ho
  have y2 := arrOk_shape ho'
  have hT : ∃ n nC : Nat, (t = [(n : Int)] ∧ nC = 1 ∨ t = [(n : Int), (nC : Int)]) ∧ e.length = n * nC ∧ n ≤ 300 ∧ nC ≤ 300 ∧ t.getD 0 0 = (n : Int) := by
    rcases h2 with h2 | h2
    · obtain ⟨x, rfl⟩ := List.length_eq_one_iff.1 h2
      obtain ⟨a1, a2, a3⟩ := size_q1 y2
      obtain ⟨n, rfl⟩ := Int.eq_ofNat_of_zero_le a1
      exact ⟨n, 1, .inl ⟨rfl, rfl⟩, by omega, by omega, by omega, rfl⟩
    · obtain ⟨x, y, rfl⟩ := two_of h2
      obtain ⟨a1, a2, a3, a4, a5⟩ := size_q2 y2
      obtain ⟨n, rfl⟩ := Int.eq_ofNat_of_zero_le a1
      obtain ⟨m, rfl⟩ := Int.eq_ofNat_of_zero_le a3
      refine ⟨n, m, .inr rfl, ?_, by omega, by omega, rfl⟩
      have : ((e.length : Nat) : Int) = ((n * m : Nat) : Int) := by rw [← z2, a5]; push_cast; rfl
      exact_mod_cast this
  obtain ⟨n, nC, t1, t2, t3, t4, t5⟩ := hT
  rw [t5] at hl
  rcases h1 with h1 | h1
  · obtain ⟨x, rfl⟩ := List.length_eq_one_iff.1 h1
    obtain ⟨a1, a2, a3⟩ := size_q1 y1
    obtain rfl : x = (n : Int) := hl
    exact ⟨1, n, nC, .inl ⟨rfl, rfl⟩, t1, by omega, t2, by omega, t3, t4⟩
  · obtain ⟨x, y, rfl⟩ := two_of h1
    obtain ⟨a1, a2, a3, a4, a5⟩ := size_q2 y1
    obtain rfl : y = (n : Int) := hl
    obtain ⟨m, rfl⟩ := Int.eq_ofNat_of_zero_le a1
    refine ⟨m, n, nC, .inr rfl, t1, ?_, t2, by omega, t3, t4⟩
    have : ((d.length : Nat) : Int) = ((m * n : Nat) : Int) := by rw [← z1, a5]; push_cast; rfl
    exact_mod_cast this
theorem size_p1 (m : Nat) (h : m ≤ 300) : sizeV [(m : Int)] = (m : Int) := by
  have h1 : dimOk (m : Int) = true := by simp [dimOk]; omega
  unfold sizeV
  rw [if_neg (by simp), if_pos (by simp [h1]), prod1, if_neg (by omega)]
theorem size_p2 (m n : Nat) (h : m ≤ 300) (k : n ≤ 300) : sizeV [(m : Int), (n : Int)] = if 300 < m * n then -1 else ((m * n : Nat) : Int) := by
  have h1 : dimOk (m : Int) = true := by simp [dimOk]; omega
  have h2 : dimOk (n : Int) = true := by simp [dimOk]; omega
  unfold sizeV
  rw [if_neg (by simp), if_pos (by simp [h1, h2]), prod2]
  by_cases hh : 300 < m * n
  · have q := Int.natCast_mul m n
    rw [if_pos hh, if_pos (by omega)]
  · have q := Int.natCast_mul m n
    rw [if_neg hh, if_neg (by omega), q]
namespace InnerD
variable {s d t e : List Int} {nR n nC : Nat}
theorem n0 (h : InnerD s d t e nR n nC) : t.getD 0 0 = (n : Int) := by rcases h.2.1 with ⟨rfl, _⟩ | rfl <;> rfl
theorem nn (h : InnerD s d t e nR n nC) : innerN t = n := by unfold innerN; rw [h.n0]; rfl
theorem wide (h : InnerD s d t e nR n nC) : sizeV (t.drop 1) = (nC : Int) := by
  rcases h.2.1 with ⟨rfl, rfl⟩ | rfl
  · exact sizeV_0'
  · exact size_p1 nC h.2.2.2.2.2.2
theorem wideN (h : InnerD s d t e nR n nC) : innerW t = nC := by unfold innerW; rw [h.wide]; rfl
theorem size (h : InnerD s d t e nR n nC) (hz : 0 ≤ sizeV (innerS s t)) : sizeV (innerS s t) = ((nR * nC : Nat) : Int) := by
  obtain ⟨h1, h2, _, _, h5, h6, h7⟩ := h
  rcases h1 with ⟨rfl, rfl⟩ | rfl <;> rcases h2 with ⟨rfl, rfl⟩ | rfl
  · exact sizeV_0'
  · rw [Nat.one_mul]; exact size_p1 nC h7
  · rw [Nat.mul_one]; exact size_p1 nR h5
  · have e : sizeV (innerS [(nR : Int), (n : Int)] [(n : Int), (nC : Int)]) = sizeV [(nR : Int), (nC : Int)] := rfl
    rw [e, size_p2 nR nC h5 h7] at hz ⊢
    split at hz
    · omega
    · rename_i q; rw [if_neg q]
theorem wide_pos (h : InnerD s d t e nR n nC) {k : Nat} (hk : k < nR * nC) : 0 < nC := by
  rcases Nat.eq_zero_or_pos nC with q | q
  · subst q; simp at hk
  · exact q
theorem row_lt (h : InnerD s d t e nR n nC) {k : Nat} (hk : k < nR * nC) : k / nC < nR := Nat.div_lt_of_lt_mul (by rw [Nat.mul_comm]; exact hk)
theorem row_in (h : InnerD s d t e nR n nC) {k : Nat} (hk : k < nR * nC) : k / nC * n + n ≤ d.length := by
  rw [h.2.2.1]
  have := Nat.mul_le_mul_right n (Nat.succ_le_of_lt (h.row_lt hk))
  rw [Nat.succ_mul] at this
  exact this
theorem col_in (h : InnerD s d t e nR n nC) {k j : Nat} (hk : k < nR * nC) (hj : j < n) : j * nC + k % nC < e.length := by
  rw [h.2.2.2.1]
  have h1 := Nat.mul_le_mul_right nC (Nat.succ_le_of_lt hj)
  rw [Nat.succ_mul] at h1
  have h2 := Nat.mod_lt k (h.wide_pos hk)
  omega
theorem count (h : InnerD s d t e nR n nC) (hz : 0 ≤ sizeV (innerS s t)) : nR * nC ≤ 300 := by
  have h1 := h.size hz
  have h2 := sizeV_bd (innerS s t)
  omega
/-- What stands at a place. -/
theorem at_ (h : InnerD s d t e nR n nC) (f g : Int) (k : Nat) : innerK f g d t e k = cellR f g (rowV d n (k / nC)) (colV e n nC (k % nC)) n := by
  unfold innerK; rw [h.nn, h.wideN]
end InnerD
/-- The columns of a matrix are the rows of it flipped. -/
theorem flip_col {e : List Int} {n m : Nat} (hn : n ≤ 300) (hm : m ≤ 300) (he : e.length = n * m) (hz : n * m ≤ 300) {j : Nat} (hj : j < m) :
    ((flipD [(n : Int), (m : Int)] e).drop (j * n)).take n = colV e n m j := by
  have hx : j * n + n ≤ m * n := by have := Nat.mul_le_mul_right n (Nat.succ_le_of_lt hj); rw [Nat.succ_mul] at this; exact this
  have hl : (flipD [(n : Int), (m : Int)] e).length = n * m := by simp [flipD, he]
  have e1 : sizeV [(m : Int), (n : Int)] = ((m * n : Nat) : Int) := by rw [size_p2 m n hm hn, if_neg (by rw [Nat.mul_comm]; omega)]
  have e2 : sizeV [(n : Int), (m : Int)] = ((n * m : Nat) : Int) := by rw [size_p2 n m hn hm, if_neg (by omega)]
  have mc : m * n = n * m := Nat.mul_comm _ _
  apply List.ext_getElem
  · rw [colV_len, List.length_take, List.length_drop, hl]; omega
  · intro k k1 k2
    rw [colV_len] at k2
    rw [List.getElem_take, List.getElem_drop]
    have hi : j * n + k < n * m := by omega
    have hn0 : 0 < n := by omega
    simp only [flipD, colV, List.getElem_map, List.getElem_range]
    congr 1
    have q1 : indexV [(n : Int), (m : Int)].reverse ((j * n + k : Nat) : Int) = [(j : Int), (k : Int)] := by
      show indexV [(m : Int), (n : Int)] ((j * n + k : Nat) : Int) = _
      unfold indexV
      rw [e1, if_neg (by omega)]
      show [((j * n + k : Nat) : Int) / (n : Int) % (m : Int), ((j * n + k : Nat) : Int) % (n : Int)] = _
      have a1 : (j * n + k) / n = j := by rw [Nat.mul_comm, Nat.mul_add_div hn0, Nat.div_eq_of_lt k2, Nat.add_zero]
      have a2 : (j * n + k) % n = k := by rw [Nat.mul_comm, Nat.mul_add_mod, Nat.mod_eq_of_lt k2]
      have a3 : j % m = j := Nat.mod_eq_of_lt hj
      rw [← Int.natCast_ediv, a1, ← Int.natCast_emod, a3, ← Int.natCast_emod, a2]
    rw [q1]
    show (placeV [(n : Int), (m : Int)] [(k : Int), (j : Int)]).toNat = k * m + j
    have q2 : placeV [(n : Int), (m : Int)] [(k : Int), (j : Int)] = ((k * m + j : Nat) : Int) := by
      unfold placeV
      rw [e2, if_neg (by simp; omega), if_pos (by simp [inOk]; omega)]
      simp [hor]
    rw [q2]; rfl
theorem flip_vec {e : List Int} {n : Nat} (hn : n ≤ 300) (he : e.length = n) : flipD [(n : Int)] e = e ∧ colV e n 1 0 = e := by
  have e1 : sizeV [(n : Int)] = (n : Int) := size_p1 n hn
  constructor
  · apply List.ext_getElem
    · simp [flipD]
    · intro k k1 k2
      simp only [flipD, List.getElem_map, List.getElem_range]
      have q1 : indexV [(n : Int)].reverse (k : Int) = [(k : Int)] := by
        show indexV [(n : Int)] (k : Int) = _
        unfold indexV
        rw [e1, if_neg (by omega)]
        show [(k : Int) % (n : Int)] = _
        rw [← Int.natCast_emod, Nat.mod_eq_of_lt (by omega)]
      rw [q1]
      show e.getD (placeV [(n : Int)] [(k : Int)]).toNat 0 = _
      have q2 : placeV [(n : Int)] [(k : Int)] = (k : Int) := by
        unfold placeV
        rw [e1, if_neg (by simp), if_pos (by simp [inOk]; omega)]
        simp [hor]
      rw [q2]
      simp [k2]
  · apply List.ext_getElem
    · rw [colV_len, he]
    · intro k k1 k2
      simp [colV, k2]
end Go.Proofs.Ytbmkfmppcojcgaa
namespace Go.Proofs.Ytbmkfmppcojcgaa
set_option linter.unusedVariables false
theorem inner_len {f g : Int} {s d t e : List Int} (h : innerC f g s d t e = 0) : (innerS s t).length ≤ 1048576 ∧ ((List.range (sizeV (innerS s t)).toNat).map (fun k => (innerK f g d t e k).1)).length ≤ 1048576 := by
  unfold innerC at h
  by_cases ho : arrOk s d = true ∧ arrOk t e = true ∧ sign2 f = true ∧ sign2 g = true
  · have h1 := (sizeV_ok (arrOk_shape ho.1)).1
    have h2 := (sizeV_ok (arrOk_shape ho.2.1)).1
    have h3 := sizeV_bd (innerS s t)
    refine ⟨?_, by rw [List.length_map, List.length_range]; omega⟩
    unfold innerS
    rw [List.length_append, List.length_take, List.length_drop]
    omega
  · rw [if_neg ho] at h; cases h
end Go.Proofs.Ytbmkfmppcojcgaa
namespace Go.Proofs.Ytbmkfmppcojcgaa
open Go.RowKit
set_option linter.unusedVariables false
set_option linter.unusedSimpArgs false
set_option maxRecDepth 20000 in
set_option maxHeartbeats 1000000 in
theorem scalar_spec (x : Int) (w : World) :
    Calls Try.prog 77 #[.int .i64 x] w fun e w' => ∃ v, e = .returned v ∧ Arr w.heap.size w'.heap.size w' v [] [x] ∧ Below w.heap.size w w' := by
  go_enter Try.func77, Try.ntmps77
  go_wp2
  go_returns
  refine ⟨_, rfl, ⟨_, _, rfl, Piece.nil _ _ _, ?_, fun g off n c off' n' c' h => by cases h⟩, by repeat first | exact Below.refl _ _ | refine bAlloc ?_ _⟩
  exact OwnInts.piece (l := [x]) (heap_alloc2_new w _ _) (by omega) (by simp) 1
/-- What VectorOf answers. -/
def vecOk (l : List Int) : Bool := arrOk [(l.length : Int)] l
end Go.Proofs.Ytbmkfmppcojcgaa
