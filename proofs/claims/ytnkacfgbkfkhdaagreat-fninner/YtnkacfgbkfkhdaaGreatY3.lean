/-
  Several texts, one behind the other: Law3, Arrs, Math.
-/
import Derived.Test.YtnkacfgbkfkhdaaGreatY2
import Derived.RegionTactic
import Derived.Deep.RegionWith
import Derived.Deep.RegionHeld3
namespace Go.Proofs.YtnkacfgbkfkhdaaGreat
open Go.RowKit
set_option linter.unusedVariables false
set_option linter.unusedSimpArgs false
/-- A block of two cells. -/
def Box (w : World) (g : Nat) (x y : Value) (t : TypeId) : Prop := w.heap[g]? = some (.cells #[x, y] t (0, 0))
theorem Box.keep {w w' : World} {g : Nat} {x y : Value} {t : TypeId} (h : Box w g x y t) (hb : Below w.heap.size w w') : Box w' g x y t := by
  unfold Box at *; rw [hb.block g (lt_of_heapA h)]; exact h
theorem Box.win {B C : Nat} {w w' : World} {g : Nat} {x y : Value} {t : TypeId} (h : Box w g x y t) (hw : Win B C w w') (hd : g < B ∨ C ≤ g) : Box w' g x y t := by
  unfold Box at *; rw [hw.block g (lt_of_heapA h) hd]; exact h
theorem box_new (w : World) (x y : Value) (t : TypeId) : Box (w.alloc (.cells #[x, y] t)) w.heap.size x y t := heap_alloc_new w _
theorem Box.c0 {w : World} {g : Nat} {x y : Value} {t : TypeId} (h : Box w g x y t) : w.cell? ⟨g, 0, none⟩ = some x := cell_at h rfl
theorem Box.c1 {w : World} {g : Nat} {x y : Value} {t : TypeId} (h : Box w g x y t) : w.cell? ⟨g, 1, none⟩ = some y := cell_at h rfl
theorem Box.lt {w : World} {g : Nat} {x y : Value} {t : TypeId} (h : Box w g x y t) : g < w.heap.size := lt_of_heapA h
theorem szV_big {n : Nat} {left : Int} (h : left < n) : szV n left = -1 := by unfold szV; rw [if_pos (by omega)]
theorem szV_small {n : Nat} {left : Int} (h : n ≤ left) : szV n left = left - n := by unfold szV; rw [if_neg (by omega)]
theorem ne_same (b : Bool) : (b != b) = false := by cases b <;> rfl
theorem box_new2 (w : World) (A : Obj) (x y : Value) (t : TypeId) : Box ((w.alloc A).alloc (.cells #[x, y] t)) (w.heap.size + 1) x y t := heap_alloc2_new w _ _
end Go.Proofs.YtnkacfgbkfkhdaaGreat
namespace Go.Proofs.YtnkacfgbkfkhdaaGreat
open Go.RowKit
set_option linter.unusedVariables false
set_option linter.unusedSimpArgs false
/-- A list of arrays that can be read: F has the shape and the numbers of each in turn. -/
def ArrsI (w : World) (v : Value) (F : List (List Int)) : Prop :=
  ∃ (a : Option Addr) (n c : Nat), v = .slice a n c ∧ F.length = 2 * n ∧ (n = 0 ∨ ∃ (o off : Nat) (xs : List Value), a = some ⟨o, off, none⟩ ∧ o < w.heap.size ∧ xs.length = F.length ∧ ∀ j, j < xs.length → w.cell? ⟨o, off + j, none⟩ = some (xs.getD j undef) ∧ IntsI w (xs.getD j undef) (F.getD j []))
theorem ArrsI.keep {w w' : World} {v : Value} {F : List (List Int)} (h : ArrsI w v F) (hb : Below w.heap.size w w') : ArrsI w' v F := by
  obtain ⟨a, n, c, rfl, hF, h⟩ := h
  refine ⟨a, n, c, rfl, hF, ?_⟩
  rcases h with h | ⟨o, off, xs, e, ho, hx, hj⟩
  · exact .inl h
  · refine .inr ⟨o, off, xs, e, Nat.lt_of_lt_of_le ho hb.size, hx, fun j h => ⟨?_, (hj j h).2.keep hb⟩⟩
    rw [hb.cell (p := ⟨o, off + j, none⟩) ho]; exact (hj j h).1
theorem ArrsI.at {w : World} {a : Option Addr} {n c k : Nat} {F : List (List Int)} (h : ArrsI w (.slice a n c) F) (hk : k < n) :
    ∃ o off x y, a = some ⟨o, off, none⟩ ∧ o < w.heap.size ∧ w.cell? ⟨o, off + k * 2, none⟩ = some x ∧ w.cell? ⟨o, off + k * 2 + 1, none⟩ = some y ∧ IntsI w x (F.getD (2 * k) []) ∧ IntsI w y (F.getD (2 * k + 1) []) := by
  obtain ⟨a', n', c', e, hF, h⟩ := h
  cases e
  rcases h with h | ⟨o, off, xs, rfl, ho, hx, hj⟩
  · omega
  · have j0 := hj (2 * k) (by omega)
    have j1 := hj (2 * k + 1) (by omega)
    refine ⟨o, off, _, _, rfl, ho, ?_, ?_, j0.2, j1.2⟩
    · rw [Nat.mul_comm k 2]; exact j0.1
    · rw [Nat.mul_comm k 2, Nat.add_assoc]; exact j1.1
/-- A slice has no cell in a block. -/
def NotAt (o : Nat) (v : Value) : Prop := ∀ off n c, v = .slice (some ⟨o, off, none⟩) n c → n = 0
structure ArrsBody (B C o off : Nat) (w : World) (xs : List Value) (F : List (List Int)) : Prop where
  len : xs.length = F.length
  lo : B ≤ o
  hi : o < C
  outer : ∃ (cur : Array Value) (t : TypeId) (fr : Nat × Nat), w.heap[o]? = some (.cells cur t fr) ∧ ∀ j, j < xs.length → cur[off + j]? = some (xs.getD j undef)
  piece : ∀ j, j < xs.length → Piece B C w (xs.getD j undef) (F.getD j [])
  apart : ∀ i j, i < j → j < xs.length → Apart (xs.getD i undef) (xs.getD j undef)
  far : ∀ j, j < xs.length → NotAt o (xs.getD j undef)
/-- A list of arrays in memory of its own, in blocks from B on and below C, no two lists with a cell together. -/
def Arrs (B C : Nat) (w : World) (v : Value) (F : List (List Int)) : Prop :=
  ∃ (a : Option Addr) (n c : Nat), v = .slice a n c ∧ F.length = 2 * n ∧ (n = 0 ∨ ∃ (o off : Nat) (xs : List Value), a = some ⟨o, off, none⟩ ∧ ArrsBody B C o off w xs F)
theorem ArrsBody.lt {B C o off : Nat} {w : World} {xs : List Value} {F : List (List Int)} (h : ArrsBody B C o off w xs F) : o < w.heap.size := by
  obtain ⟨cur, t, fr, hg, _⟩ := h.outer
  exact lt_of_heapA hg
theorem ArrsBody.cell {B C o off j : Nat} {w : World} {xs : List Value} {F : List (List Int)} (h : ArrsBody B C o off w xs F) (hj : j < xs.length) : w.cell? ⟨o, off + j, none⟩ = some (xs.getD j undef) := by
  obtain ⟨cur, t, fr, hg, hc⟩ := h.outer
  exact cell_at hg (hc j hj)
theorem Arrs.arrsI {B C : Nat} {w : World} {v : Value} {F : List (List Int)} (h : Arrs B C w v F) : ArrsI w v F := by
  obtain ⟨a, n, c, rfl, hF, h⟩ := h
  refine ⟨a, n, c, rfl, hF, ?_⟩
  rcases h with h | ⟨o, off, xs, rfl, h⟩
  · exact .inl h
  · exact .inr ⟨o, off, xs, rfl, h.lt, h.len, fun j hj => ⟨h.cell hj, (h.piece j hj).intsI⟩⟩
theorem ArrsBody.keep {B C o off : Nat} {w w' : World} {xs : List Value} {F : List (List Int)} (h : ArrsBody B C o off w xs F) (hb : Below w.heap.size w w') : ArrsBody B C o off w' xs F := by
  obtain ⟨cur, t, fr, hg, hc⟩ := h.outer
  exact ⟨h.len, h.lo, h.hi, ⟨cur, t, fr, by rw [hb.block o h.lt]; exact hg, hc⟩, fun j hj => (h.piece j hj).keep hb, h.apart, h.far⟩
theorem ArrsBody.win {B C B' C' o off : Nat} {w w' : World} {xs : List Value} {F : List (List Int)} (h : ArrsBody B' C' o off w xs F) (hw : Win B C w w') (hd : C' ≤ B ∨ C ≤ B') : ArrsBody B' C' o off w' xs F := by
  obtain ⟨cur, t, fr, hg, hc⟩ := h.outer
  have h1 := h.lo
  have h2 := h.hi
  exact ⟨h.len, h.lo, h.hi, ⟨cur, t, fr, by rw [hw.block o h.lt (by omega)]; exact hg, hc⟩, fun j hj => (h.piece j hj).win hw hd, h.apart, h.far⟩
theorem Arrs.keep {B C : Nat} {w w' : World} {v : Value} {F : List (List Int)} (h : Arrs B C w v F) (hb : Below w.heap.size w w') : Arrs B C w' v F := by
  obtain ⟨a, n, c, rfl, hF, h⟩ := h
  refine ⟨a, n, c, rfl, hF, ?_⟩
  rcases h with h | ⟨o, off, xs, rfl, h⟩
  · exact .inl h
  · exact .inr ⟨o, off, xs, rfl, h.keep hb⟩
theorem Arrs.win {B C B' C' : Nat} {w w' : World} {v : Value} {F : List (List Int)} (h : Arrs B' C' w v F) (hw : Win B C w w') (hd : C' ≤ B ∨ C ≤ B') : Arrs B' C' w' v F := by
  obtain ⟨a, n, c, rfl, hF, h⟩ := h
  refine ⟨a, n, c, rfl, hF, ?_⟩
  rcases h with h | ⟨o, off, xs, rfl, h⟩
  · exact .inl h
  · exact .inr ⟨o, off, xs, rfl, h.win hw hd⟩
theorem Arrs.mono {B C B' C' : Nat} {w : World} {v : Value} {F : List (List Int)} (h : Arrs B C w v F) (hB : B' ≤ B) (hC : C ≤ C') : Arrs B' C' w v F := by
  obtain ⟨a, n, c, rfl, hF, h⟩ := h
  refine ⟨a, n, c, rfl, hF, ?_⟩
  rcases h with h | ⟨o, off, xs, rfl, h⟩
  · exact .inl h
  · have h1 := h.lo
    have h2 := h.hi
    exact .inr ⟨o, off, xs, rfl, h.len, by omega, by omega, h.outer, fun j hj => (h.piece j hj).mono hB hC, h.apart, h.far⟩
/-- How many numbers the first j lists have. -/
def sumTo (F : List (List Int)) (j : Nat) : Nat := ((F.take j).map List.length).sum
theorem sumTo_zero (F : List (List Int)) : sumTo F 0 = 0 := by simp [sumTo]
theorem sumTo_succ (F : List (List Int)) (j : Nat) : sumTo F (j + 1) = sumTo F j + (F.getD j []).length := by
  unfold sumTo
  by_cases h : j < F.length
  · have e : F.getD j [] = F[j] := by simp [h]
    rw [List.take_succ_eq_append_getElem h, e]
    simp only [List.map_append, List.sum_append, List.map_cons, List.map_nil, List.sum_cons, List.sum_nil, Nat.add_zero]
  · rw [List.take_of_length_le (by omega), List.take_of_length_le (by omega)]
    simp [List.getD, List.getElem?_eq_none (Nat.le_of_not_lt h)]
theorem sumTo_le (F : List (List Int)) (i j : Nat) (h : i ≤ j) : sumTo F i ≤ sumTo F j := by
  induction j with
  | zero => obtain rfl : i = 0 := by omega
            exact Nat.le_refl _
  | succ j ih =>
    by_cases e : i = j + 1
    · subst e; exact Nat.le_refl _
    · have := ih (by omega)
      rw [sumTo_succ]
      omega
theorem sumTo_all (F : List (List Int)) (j : Nat) : sumTo F j ≤ sumTo F F.length := by
  by_cases h : j ≤ F.length
  · exact sumTo_le F j _ h
  · unfold sumTo
    rw [List.take_of_length_le (by omega), List.take_of_length_le (by omega)]
    exact Nat.le_refl _
/-- The lists, the first j of them marked. -/
def mkF (F : List (List Int)) (k0 : Int) (j i : Nat) : List Int := if i < j then upFrom (k0 + sumTo F i) (F.getD i []).length else F.getD i []
def markF (F : List (List Int)) (k0 : Int) (j : Nat) : List (List Int) := (List.range F.length).map (mkF F k0 j)
theorem markF_length (F : List (List Int)) (k0 : Int) (j : Nat) : (markF F k0 j).length = F.length := by simp [markF]
theorem markF_at {F : List (List Int)} {k0 : Int} {j i : Nat} (h : i < F.length) : (markF F k0 j).getD i [] = mkF F k0 j i := by simp [markF, h]
theorem markF_zero (F : List (List Int)) (k0 : Int) : markF F k0 0 = F := by
  apply List.ext_getElem
  · simp [markF]
  · intro i h1 h2
    simp [markF, mkF, h2]
theorem ArrsBody.mark {B C o off j : Nat} {w w' : World} {xs : List Value} {F : List (List Int)} {k0 : Int} (h : ArrsBody B C o off w xs (markF F k0 j)) (hj : j < xs.length) (hp : Piece B C w' (xs.getD j undef) (upFrom (k0 + sumTo F j) (F.getD j []).length)) (ho : Only (xs.getD j undef) w w') :
    ArrsBody B C o off w' xs (markF F k0 (j + 1)) := by
  have hl : xs.length = F.length := by rw [h.len, markF_length]
  obtain ⟨cur, t, fr, hg, hc⟩ := h.outer
  refine ⟨by rw [markF_length]; exact hl, h.lo, h.hi, ⟨cur, t, fr, by rw [ho.block o h.lt (h.far j hj)]; exact hg, hc⟩, fun i hi => ?_, h.apart, h.far⟩
  rw [markF_at (by omega)]
  by_cases e : i = j
  · subst e
    unfold mkF
    rw [if_pos (by omega)]
    exact hp
  · have q := h.piece i hi
    rw [markF_at (by omega)] at q
    have e2 : mkF F k0 (j + 1) i = mkF F k0 j i := by
      unfold mkF
      by_cases e3 : i < j
      · rw [if_pos e3, if_pos (by omega)]
      · rw [if_neg e3, if_neg (by omega)]
    rw [e2]
    refine q.only ho ?_
    by_cases e4 : i < j
    · exact (h.apart i j e4 hj).symm
    · exact h.apart j i (by omega) hi
theorem ArrsBody.onlyWin {B C o off j : Nat} {w w' : World} {xs : List Value} {F : List (List Int)} (h : ArrsBody B C o off w xs F) (hj : j < xs.length) (ho : Only (xs.getD j undef) w w') : Win B C w w' := ho.win (h.piece j hj)
end Go.Proofs.YtnkacfgbkfkhdaaGreat
namespace Go.Proofs.YtnkacfgbkfkhdaaGreat

/-- A right number. -/
def ok (x : Int) : Bool := decide (-1000000000000 ≤ x) && decide (x ≤ 1000000000000)
theorem ok_bd {x : Int} (h : ok x = true) : -1000000000000 ≤ x ∧ x ≤ 1000000000000 := by simpa [ok] using h
theorem ok_mk {x : Int} (h1 : -1000000000000 ≤ x) (h2 : x ≤ 1000000000000) : ok x = true := by simp [ok, h1, h2]
theorem ok_no {x : Int} (h : x < -1000000000000 ∨ 1000000000000 < x) : ok x = false := by
  rcases h with h | h <;> simp [ok] <;> omega

/-- -1, 0 or 1. -/
def sgn (x : Int) : Int := if x < 0 then -1 else if 0 < x then 1 else 0
/-- Without its sign. -/
def mag (x : Int) : Int := if x < 0 then -x else x
theorem mag_abs (x : Int) : mag x = (x.natAbs : Int) := by unfold mag; split <;> omega
theorem mag_bd {x : Int} (h1 : -1000000000000 ≤ x) (h2 : x ≤ 1000000000000) : 0 ≤ mag x ∧ mag x ≤ 1000000000000 := by unfold mag; split <;> omega
/-- The greater, the lesser one. -/
def mx (a b : Int) : Int := if b < a then a else b
def mn (a b : Int) : Int := if a < b then a else b
/-- 1 where it is so. -/
def bit (b : Bool) : Int := if b = true then 1 else 0
theorem bit_bd (b : Bool) : 0 ≤ bit b ∧ bit b ≤ 1 := by unfold bit; split <;> omega
/-- What '~' tells, and its code. -/
def invC (x : Int) : Int := if x = 0 ∨ x = 1 then 0 else 2
def invV (x : Int) : Int := if x = 0 ∨ x = 1 then 1 - x else 0
/-- What One answers. -/
def oneV (s x : Int) : Int × Int :=
  if ok x = false then (0, 1) else if s = 43 then (x, 0) else if s = 45 then (-x, 0) else if s = 42 then (sgn x, 0)
  else if s = 124 then (mag x, 0) else if s = 126 then (invV x, invC x) else (0, 1)

/-- How many binary digits a number has. -/
def bits (m : Nat) : Nat := if m = 0 then 0 else m.log2 + 1
theorem bits_zero : bits 0 = 0 := rfl
theorem bits_pos {m : Nat} (h : 0 < m) : bits m = bits (m / 2) + 1 := by
  unfold bits
  rw [if_neg (by omega), Nat.log2_def]
  by_cases h2 : 2 ≤ m
  · rw [if_pos h2, if_neg (by omega)]
  · rw [if_neg (by omega), if_pos (by omega)]
theorem bits_lt (m : Nat) : m < 2 ^ bits m := by
  induction m using Nat.strongRecOn with
  | ind m ih =>
    by_cases h : m = 0
    · subst h; rw [bits_zero]; decide
    · have := ih (m / 2) (by omega)
      rw [bits_pos (by omega), Nat.pow_succ]; omega
theorem bits_le (m : Nat) (h : 0 < m) : 2 ^ bits m ≤ 2 * m := by
  induction m using Nat.strongRecOn with
  | ind m ih =>
    by_cases h1 : m = 1
    · subst h1; rw [bits_pos (by omega)]; simp [bits_zero]
    · have := ih (m / 2) (by omega) (by omega)
      rw [bits_pos (by omega), Nat.pow_succ]; omega
theorem bits_top : bits 1000000000000 = 40 := by
  have h1 := bits_lt 1000000000000
  have h2 := bits_le 1000000000000 (by decide)
  have a : ¬ bits 1000000000000 ≤ 39 := fun h => by
    have := Nat.pow_le_pow_right (n := 2) (by decide) h
    omega
  have b : ¬ 41 ≤ bits 1000000000000 := fun h => by
    have := Nat.pow_le_pow_right (n := 2) (by decide) h
    omega
  omega
theorem bits_small {m : Nat} (h : m ≤ 1000000000000) : bits m ≤ 40 := by
  by_cases h0 : m = 0
  · subst h0; rw [bits_zero]; decide
  · have h2 := bits_le m (by omega)
    have b : ¬ 41 ≤ bits m := fun h => by
      have := Nat.pow_le_pow_right (n := 2) (by decide) h
      omega
    omega

theorem abs_mul (a b : Int) : (a * b).natAbs = a.natAbs * b.natAbs := Int.natAbs_mul a b
theorem ok_iff (x : Int) : ok x = decide (x.natAbs ≤ 1000000000000) := by
  rw [Bool.eq_iff_iff]; simp [ok]; omega
theorem prod_big {a b : Int} (ha : a.natAbs ≤ 1000000000000) (hb : b.natAbs ≤ 1000000000000) (h : 41 < bits a.natAbs + bits b.natAbs) : ok (a * b) = false := by
  have a0 : a.natAbs ≠ 0 := fun e => by have := bits_small hb; rw [e, bits_zero] at h; omega
  have b0 : b.natAbs ≠ 0 := fun e => by have := bits_small ha; rw [e, bits_zero] at h; omega
  have l1 := bits_le a.natAbs (by omega)
  have l2 := bits_le b.natAbs (by omega)
  have l3 := Nat.mul_le_mul l1 l2
  rw [← Nat.pow_add] at l3
  have l4 := Nat.pow_le_pow_right (n := 2) (by decide) (show 42 ≤ bits a.natAbs + bits b.natAbs from h)
  have l5 : 2 * a.natAbs * (2 * b.natAbs) = 4 * (a.natAbs * b.natAbs) := by
    rw [Nat.mul_assoc, Nat.mul_left_comm a.natAbs 2, ← Nat.mul_assoc]
  rw [l5] at l3
  rw [ok_iff, abs_mul]
  have : (2 : Nat) ^ 42 = 4398046511104 := by decide
  simp only [decide_eq_false_iff_not]; omega
theorem prod_small {a b : Int} (h : bits a.natAbs + bits b.natAbs ≤ 41) : -2199023255552 ≤ a * b ∧ a * b ≤ 2199023255552 := by
  have l1 := bits_lt a.natAbs
  have l2 := bits_lt b.natAbs
  have l3 := Nat.mul_le_mul (Nat.le_of_lt l1) (Nat.le_of_lt l2)
  rw [← Nat.pow_add] at l3
  have l4 := Nat.pow_le_pow_right (n := 2) (by decide) h
  have e := abs_mul a b
  have : (2 : Nat) ^ 41 = 2199023255552 := by decide
  omega

/-- A right number, or the code of the limit. -/
def limV (x : Int) : Int := if ok x = true then x else 0
def limC (x : Int) : Int := if ok x = true then 0 else 6
theorem lim_no {x : Int} (h : ok x = false) : limV x = 0 ∧ limC x = 6 := by simp [limV, limC, h]
theorem lim_yes {x : Int} (h : ok x = true) : limV x = x ∧ limC x = 0 := by simp [limV, limC, h]

/-- The quotient rounded down. -/
def flo (a b : Int) : Int := a.fdiv b
theorem flo_go (a b : Int) (hb : b ≠ 0) : flo a b = if a.tmod b ≠ 0 ∧ (decide (a < 0) != decide (b < 0)) = true then a.tdiv b - 1 else a.tdiv b := by
  unfold flo
  rw [Int.fdiv_eq_tdiv]
  have hd : b ∣ a ↔ a.tmod b = 0 := Int.dvd_iff_tmod_eq_zero
  by_cases h0 : a.tmod b = 0
  · simp [h0, hd]
  · have hn : ¬ b ∣ a := fun h => h0 (hd.1 h)
    have ha : a ≠ 0 := fun e => by subst e; simp at h0
    by_cases p : 0 ≤ a
    · have p' : ¬ a < 0 := by omega
      by_cases q : 0 ≤ b
      · have q' : ¬ b < 0 := by omega
        simp [hn, p, q, p', q']
      · have q' : b < 0 := by omega
        simp [hn, h0, p, q, p', q']
    · have p' : a < 0 := by omega
      by_cases q : 0 ≤ b
      · have q' : ¬ b < 0 := by omega
        have s : b.sign = 1 := Int.sign_eq_one_of_pos (by omega)
        simp [hn, h0, p, q, p', q', s]
      · have q' : b < 0 := by omega
        have s : b.sign = -1 := Int.sign_eq_neg_one_of_neg q'
        simp [hn, p, q, p', q', s]
theorem flo_bd {a b : Int} (h1 : -1000000000000 ≤ a) (h2 : a ≤ 1000000000000) : -1000000000000 ≤ flo a b ∧ flo a b ≤ 1000000000000 := by
  have := Int.natAbs_fdiv_le_natAbs a b
  unfold flo
  omega
theorem tdiv_bd {a b : Int} (h1 : -1000000000000 ≤ a) (h2 : a ≤ 1000000000000) : -1000000000000 ≤ a.tdiv b ∧ a.tdiv b ≤ 1000000000000 := by
  have := Int.natAbs_tdiv_le_natAbs a b
  omega
/-- What is left over. -/
def rst (a b : Int) : Int := a.fmod b
theorem rst_eq (a b : Int) : a - b * flo a b = rst a b := by
  have := Int.fmod_add_mul_fdiv a b
  unfold flo rst
  omega
theorem rst_pos (a : Int) {b : Int} (hb : 0 < b) : 0 ≤ rst a b ∧ rst a b < b := ⟨Int.fmod_nonneg_of_pos a hb, Int.fmod_lt_of_pos a hb⟩
theorem rst_neg (a : Int) {b : Int} (hb : b < 0) : rst a b ≤ 0 ∧ b < rst a b := by
  have e : rst a b = - rst (-a) (-b) := by unfold rst; rw [Int.neg_fmod_neg, Int.neg_neg]
  have := rst_pos (-a) (b := -b) (by omega)
  omega
theorem rst_bd {a b : Int} (hb : b ≠ 0) (b1 : -1000000000000 ≤ b) (b2 : b ≤ 1000000000000) : -1000000000000 ≤ rst a b ∧ rst a b ≤ 1000000000000 := by
  by_cases h : 0 < b
  · have := rst_pos a h; omega
  · have := rst_neg a (b := b) (by omega); omega

/-- What a sign does to two right numbers, ahead of the limit, and the code that comes ahead of it. -/
def twoC (s b : Int) : Int := if s = 37 ∧ b = 0 then 2 else 0
def twoX (s a b : Int) : Int :=
  if s = 43 then a + b else if s = 45 then a - b else if s = 42 then a * b else if s = 37 then flo a b
  else if s = 124 then (if a = 0 then b else rst b a) else if s = 38 then mn a b else if s = 94 then mx a b
  else if s = 61 then bit (a == b) else if s = 60 then bit (decide (a < b)) else bit (decide (b < a))
def sign2 (s : Int) : Bool := s == 43 || s == 45 || s == 42 || s == 37 || s == 124 || s == 38 || s == 94 || s == 61 || s == 60 || s == 62
/-- What Two answers. -/
def twoV (s a b : Int) : Int × Int :=
  if ok a = false ∨ ok b = false ∨ sign2 s = false then (0, 1) else if twoC s b = 0 then (limV (twoX s a b), limC (twoX s a b)) else (0, twoC s b)
theorem twoV_43 {a b : Int} (ka : ok a = true) (kb : ok b = true) : twoV 43 a b = (limV (a + b), limC (a + b)) := by simp [twoV, ka, kb, sign2, twoC, twoX]
theorem twoV_45 {a b : Int} (ka : ok a = true) (kb : ok b = true) : twoV 45 a b = (limV (a - b), limC (a - b)) := by simp [twoV, ka, kb, sign2, twoC, twoX]
theorem twoV_42 {a b : Int} (ka : ok a = true) (kb : ok b = true) : twoV 42 a b = (limV (a * b), limC (a * b)) := by simp [twoV, ka, kb, sign2, twoC, twoX]
theorem twoV_37 {a b : Int} (ka : ok a = true) (kb : ok b = true) (hb : b ≠ 0) : twoV 37 a b = (limV (flo a b), limC (flo a b)) := by simp [twoV, ka, kb, sign2, twoC, twoX, hb]
theorem twoV_37n {a b : Int} (ka : ok a = true) (kb : ok b = true) (hb : b = 0) : twoV 37 a b = (0, 2) := by subst hb; simp [twoV, ka, kb, sign2, twoC]
theorem twoV_124 {a b : Int} (ka : ok a = true) (kb : ok b = true) : twoV 124 a b = (limV (if a = 0 then b else rst b a), limC (if a = 0 then b else rst b a)) := by simp [twoV, ka, kb, sign2, twoC, twoX]
theorem twoV_38 {a b : Int} (ka : ok a = true) (kb : ok b = true) : twoV 38 a b = (limV (mn a b), limC (mn a b)) := by simp [twoV, ka, kb, sign2, twoC, twoX]
theorem twoV_94 {a b : Int} (ka : ok a = true) (kb : ok b = true) : twoV 94 a b = (limV (mx a b), limC (mx a b)) := by simp [twoV, ka, kb, sign2, twoC, twoX]
theorem twoV_61 {a b : Int} (ka : ok a = true) (kb : ok b = true) : twoV 61 a b = (limV (bit (a == b)), limC (bit (a == b))) := by simp [twoV, ka, kb, sign2, twoC, twoX]
theorem twoV_60 {a b : Int} (ka : ok a = true) (kb : ok b = true) : twoV 60 a b = (limV (bit (decide (a < b))), limC (bit (decide (a < b)))) := by simp [twoV, ka, kb, sign2, twoC, twoX]
theorem twoV_62 {a b : Int} (ka : ok a = true) (kb : ok b = true) : twoV 62 a b = (limV (bit (decide (b < a))), limC (bit (decide (b < a)))) := by simp [twoV, ka, kb, sign2, twoC, twoX]
theorem twoV_none {s a b : Int} (h : sign2 s = false) : twoV s a b = (0, 1) := by simp [twoV, h]
theorem twoV_bad {s a b : Int} (h : ok a = false ∨ ok b = false) : twoV s a b = (0, 1) := by rcases h with h | h <;> simp [twoV, h]
def sign1 (s : Int) : Bool := s == 43 || s == 45 || s == 42 || s == 124 || s == 126
theorem oneV_none {s x : Int} (h : sign1 s = false) : oneV s x = (0, 1) := by
  simp [sign1] at h
  simp [oneV, h]
theorem oneV_bad {s x : Int} (h : ok x = false) : oneV s x = (0, 1) := by simp [oneV, h]
theorem oneV_43 {x : Int} (k : ok x = true) : oneV 43 x = (x, 0) := by simp [oneV, k]
theorem oneV_45 {x : Int} (k : ok x = true) : oneV 45 x = (-x, 0) := by simp [oneV, k]
theorem oneV_42 {x : Int} (k : ok x = true) : oneV 42 x = (sgn x, 0) := by simp [oneV, k]
theorem oneV_124 {x : Int} (k : ok x = true) : oneV 124 x = (mag x, 0) := by simp [oneV, k]
theorem oneV_126 {x : Int} (k : ok x = true) : oneV 126 x = (invV x, invC x) := by simp [oneV, k]
theorem sign1_of {s : Int} (h : sign1 s = true) : s = 43 ∨ s = 45 ∨ s = 42 ∨ s = 124 ∨ s = 126 := by simp [sign1] at h; omega
theorem sign2_of {s : Int} (h : sign2 s = true) : s = 43 ∨ s = 45 ∨ s = 42 ∨ s = 37 ∨ s = 124 ∨ s = 38 ∨ s = 94 ∨ s = 61 ∨ s = 60 ∨ s = 62 := by simp [sign2] at h; omega
theorem sgn_bits (x : Int) : bit (decide (0 < x)) - bit (decide (x < 0)) = sgn x := by
  unfold sgn bit
  by_cases h1 : 0 < x <;> by_cases h2 : x < 0 <;> simp [h1, h2] <;> omega
theorem mx_mag (x : Int) : mx x (-x) = mag x := by unfold mx mag; split <;> split <;> omega
/-- The product looked at by a quotient. -/
theorem times_big {a b : Int} (h : 1000000000000 / mag b < mag a) (hb : b ≠ 0) : ok (a * b) = false := by
  rw [mag_abs, mag_abs] at h
  have e : ((1000000000000 / b.natAbs : Nat) : Int) = 1000000000000 / (b.natAbs : Int) := by rw [Int.natCast_ediv]; rfl
  have h' : 1000000000000 / b.natAbs < a.natAbs := by rw [← e] at h; omega
  rw [Nat.div_lt_iff_lt_mul (by omega)] at h'
  rw [ok_iff, abs_mul]
  simp only [decide_eq_false_iff_not]; omega
theorem times_small {a b : Int} (h : ¬ 1000000000000 / mag b < mag a) (hb : b ≠ 0) : ok (a * b) = true := by
  rw [mag_abs, mag_abs] at h
  have e : ((1000000000000 / b.natAbs : Nat) : Int) = 1000000000000 / (b.natAbs : Int) := by rw [Int.natCast_ediv]; rfl
  have h' : ¬ 1000000000000 / b.natAbs < a.natAbs := by rw [← e] at h; omega
  rw [Nat.div_lt_iff_lt_mul (by omega)] at h'
  rw [ok_iff, abs_mul]
  simp only [decide_eq_true_eq]; omega
/-- What Neutral answers. -/
def neu (s : Int) : Int × Bool :=
  if s = 43 then (0, true) else if s = 45 then (0, true) else if s = 124 then (0, true) else if s = 60 then (0, true)
  else if s = 62 then (0, true) else if s = 42 then (1, true) else if s = 37 then (1, true) else if s = 61 then (1, true)
  else if s = 38 then (1000000000000, true) else if s = 94 then (-1000000000000, true) else (0, false)

theorem div_eq (a b : Int) : flo a b * b + rst a b = a := by
  have := rst_eq a b
  rw [Int.mul_comm b] at this
  omega
end Go.Proofs.YtnkacfgbkfkhdaaGreat
