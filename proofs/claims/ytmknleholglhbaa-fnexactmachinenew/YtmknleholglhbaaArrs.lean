/-
  Lists of arrays: a row of slices, two an array, each a list of numbers; the laws' own helpers on them: eqArrayS, markArrayS, heldArrayS.
-/
import Derived.Test.YtmknleholglhbaaLaw3
namespace Go.Proofs.Ytmknleholglhbaa
open Go.RowKit
set_option linter.unusedVariables false
set_option linter.unusedSimpArgs false
/-- A list of arrays that can be read: F has the shape and the numbers of each in turn. -/
def ArrsI (w : World) (v : Value) (F : List (List Int)) : Prop :=
  ∃ (a : Option Addr) (n c : Nat), v = .slice a n c ∧ F.length = 2 * n ∧ (n = 0 ∨ ∃ (o off : Nat) (xs : List Value), a = some ⟨o, off, none⟩ ∧ o < w.heap.size ∧ xs.length = F.length ∧ ∀ j, j < xs.length → w.cell? ⟨o, off + j, none⟩ = some (xs.getD j undef) ∧ IntsI w (xs.getD j undef) (F.getD j []))
theorem ArrsI.keep {w w' : World} {v : Value} {F : List (List Int)} (h : ArrsI w v F) (hb : Below w.heap.size w w') : ArrsI w' v F := by
  obtain ⟨a, n, c, rfl, hF, h⟩ := h
  refine ⟨a, n, c, rfl, hF, ?_⟩
  rcases h with h | ⟨o, off, xs, e, ho, hx, hj⟩
  · exact .inl h
  · refine .inr ⟨o, off, xs, e, Nat.lt_of_lt_of_le ho hb.size, hx, fun j h => ⟨?_, (hj j h).2.keep hb⟩⟩
    rw [hb.cell (p := ⟨o, off + j, none⟩) ho]; exact (hj j h).1
theorem ArrsI.at {w : World} {a : Option Addr} {n c k : Nat} {F : List (List Int)} (h : ArrsI w (.slice a n c) F) (hk : k < n) :
    ∃ o off x y, a = some ⟨o, off, none⟩ ∧ o < w.heap.size ∧ w.cell? ⟨o, off + k * 2, none⟩ = some x ∧ w.cell? ⟨o, off + k * 2 + 1, none⟩ = some y ∧ IntsI w x (F.getD (2 * k) []) ∧ IntsI w y (F.getD (2 * k + 1) []) := by
  obtain ⟨a', n', c', e, hF, h⟩ := h
  cases e
  rcases h with h | ⟨o, off, xs, rfl, ho, hx, hj⟩
  · omega
  · have j0 := hj (2 * k) (by omega)
    have j1 := hj (2 * k + 1) (by omega)
    refine ⟨o, off, _, _, rfl, ho, ?_, ?_, j0.2, j1.2⟩
    · rw [Nat.mul_comm k 2]; exact j0.1
    · rw [Nat.mul_comm k 2, Nat.add_assoc]; exact j1.1
set_option maxRecDepth 20000 in
set_option maxHeartbeats 1000000 in
theorem eq_arrsI {w : World} {v u : Value} {F : List (List Int)} (h : ArrsI w v F) (k : ArrsI w u F) (hF : ∀ j, (F.getD j []).length ≤ 1048576) (hn : F.length ≤ 1048576) :
    Calls Try.prog 17 #[v, u] w fun e w' => e = .returned (.bool true) ∧ Below w.heap.size w w' := by
  have H : Hid (ArrsI w v F) := h
  have K : Hid (ArrsI w u F) := k
  obtain ⟨a, n, c, rfl, e1, _⟩ := h
  obtain ⟨b, m, d, rfl, e2, _⟩ := k
  obtain rfl : m = n := by omega
  have HF : Hid (∀ j, (F.getD j []).length ≤ 1048576) := hF
  have hn' : m ≤ 1048576 := by omega
  clear hF hn e1 e2
  go_enter Try.func17, Try.ntmps17
  go_wp2
  go_loopw [5] (fun i w' => ∃ k : Nat, k ≤ m ∧ i = .int .i64 k ∧ Below w.heap.size w w') (fun i _ => m - (intOf i).toNat)
  case atStart => exact ⟨0, by omega, rfl, Below.refl _ _⟩
  case round =>
    obtain ⟨k, hk, rfl, hb⟩ := hrel
    have HB : Hid (Below w.heap.size w wr) := hb
    clear hb
    by_cases hlt : (k : Int) < (m : Int)
    · obtain ⟨o, off, x, y, rfl, ho, p0, p1, i0, i1⟩ := (H.out.keep HB.out).at (k := k) (by omega)
      obtain ⟨o', off', x', y', rfl, ho', q0, q1, j0, j1⟩ := (K.out.keep HB.out).at (k := k) (by omega)
      obtain ⟨ax, cx, rfl, gix, ix⟩ := i0
      obtain ⟨ay, cy, rfl, giy, iy⟩ := i1
      obtain ⟨bx, dx, rfl, gjx, jx⟩ := j0
      obtain ⟨by', dy, rfl, gjy, jy⟩ := j1
      have A1 : Hid (ArrI wr (.agg #[.slice ax (F.getD (2 * k) []).length cx, .slice ay (F.getD (2 * k + 1) []).length cy]) (F.getD (2 * k) []) (F.getD (2 * k + 1) [])) := ⟨_, _, _, _, rfl, ix, iy, gix, giy⟩
      have A2 : Hid (ArrI wr (.agg #[.slice bx (F.getD (2 * k) []).length dx, .slice by' (F.getD (2 * k + 1) []).length dy]) (F.getD (2 * k) []) (F.getD (2 * k + 1) [])) := ⟨_, _, _, _, rfl, jx, jy, gjx, gjy⟩
      have L1 : Hid ((F.getD (2 * k) []).length ≤ 1048576) := HF.out _
      have L2 : Hid ((F.getD (2 * k + 1) []).length ≤ 1048576) := HF.out _
      clear ix iy jx jy gix giy gjx gjy
      generalize F.getD (2 * k) [] = s at *
      generalize F.getD (2 * k + 1) [] = t at *
      go_wp2_with fail
      go_region_held3 (fun w' => w'.cell? ⟨o, off + k * 2, none⟩ = some (.slice ax s.length cx) ∧ w'.cell? ⟨o, off + k * 2 + 1, none⟩ = some (.slice ay t.length cy) ∧ w'.cell? ⟨o', off' + k * 2, none⟩ = some (.slice bx s.length dx) ∧ w'.cell? ⟨o', off' + k * 2 + 1, none⟩ = some (.slice by' t.length dy))
        (first | exact ⟨z0, z1, z2, z3⟩ | exact ⟨p0, p1, q0, q1⟩)
        (first
          | (go_at_call 27; refine (eq_arrI (A1.out.keep ((Below.refl wr.heap.size wr).drew)) (A2.out.keep ((Below.refl wr.heap.size wr).drew)) L1.out L2.out).mono ?_; rintro r w2 ⟨rfl, hb⟩; have HB2 : Hid (Below wr.heap.size wr w2) := bTrans ((Below.refl wr.heap.size wr).drew) hb; have z0 := (HB2.out.cell (p := ⟨o, off + k * 2, none⟩) ho).trans p0; have z1 := (HB2.out.cell (p := ⟨o, off + k * 2 + 1, none⟩) ho).trans p1; have z2 := (HB2.out.cell (p := ⟨o', off' + k * 2, none⟩) ho').trans q0; have z3 := (HB2.out.cell (p := ⟨o', off' + k * 2 + 1, none⟩) ho').trans q1; clear hb))
      go_wp2
      go_roundw
      case rel => exact ⟨k + 1, by omega, by go_num, bTrans HB.out HB2.out⟩
      case measure => simp [intOf]; omega
    · go_wp2
      go_ret
      exact ⟨rfl, HB.out⟩
/-- A slice has no cell in a block. -/
def NotAt (o : Nat) (v : Value) : Prop := ∀ off n c, v = .slice (some ⟨o, off, none⟩) n c → n = 0
structure ArrsBody (B C o off : Nat) (w : World) (xs : List Value) (F : List (List Int)) : Prop where
  len : xs.length = F.length
  lo : B ≤ o
  hi : o < C
  outer : ∃ (cur : Array Value) (t : TypeId) (fr : Nat × Nat), w.heap[o]? = some (.cells cur t fr) ∧ ∀ j, j < xs.length → cur[off + j]? = some (xs.getD j undef)
  piece : ∀ j, j < xs.length → Piece B C w (xs.getD j undef) (F.getD j [])
  apart : ∀ i j, i < j → j < xs.length → Apart (xs.getD i undef) (xs.getD j undef)
  far : ∀ j, j < xs.length → NotAt o (xs.getD j undef)
/-- A list of arrays in memory of its own, in blocks from B on and below C, no two lists with a cell together. -/
def Arrs (B C : Nat) (w : World) (v : Value) (F : List (List Int)) : Prop :=
  ∃ (a : Option Addr) (n c : Nat), v = .slice a n c ∧ F.length = 2 * n ∧ (n = 0 ∨ ∃ (o off : Nat) (xs : List Value), a = some ⟨o, off, none⟩ ∧ ArrsBody B C o off w xs F)
theorem ArrsBody.lt {B C o off : Nat} {w : World} {xs : List Value} {F : List (List Int)} (h : ArrsBody B C o off w xs F) : o < w.heap.size := by
  obtain ⟨cur, t, fr, hg, _⟩ := h.outer
  exact lt_of_heapA hg
theorem ArrsBody.cell {B C o off j : Nat} {w : World} {xs : List Value} {F : List (List Int)} (h : ArrsBody B C o off w xs F) (hj : j < xs.length) : w.cell? ⟨o, off + j, none⟩ = some (xs.getD j undef) := by
  obtain ⟨cur, t, fr, hg, hc⟩ := h.outer
  exact cell_at hg (hc j hj)
theorem Arrs.arrsI {B C : Nat} {w : World} {v : Value} {F : List (List Int)} (h : Arrs B C w v F) : ArrsI w v F := by
  obtain ⟨a, n, c, rfl, hF, h⟩ := h
  refine ⟨a, n, c, rfl, hF, ?_⟩
  rcases h with h | ⟨o, off, xs, rfl, h⟩
  · exact .inl h
  · exact .inr ⟨o, off, xs, rfl, h.lt, h.len, fun j hj => ⟨h.cell hj, (h.piece j hj).intsI⟩⟩
theorem ArrsBody.keep {B C o off : Nat} {w w' : World} {xs : List Value} {F : List (List Int)} (h : ArrsBody B C o off w xs F) (hb : Below w.heap.size w w') : ArrsBody B C o off w' xs F := by
  obtain ⟨cur, t, fr, hg, hc⟩ := h.outer
  exact ⟨h.len, h.lo, h.hi, ⟨cur, t, fr, by rw [hb.block o h.lt]; exact hg, hc⟩, fun j hj => (h.piece j hj).keep hb, h.apart, h.far⟩
theorem ArrsBody.win {B C B' C' o off : Nat} {w w' : World} {xs : List Value} {F : List (List Int)} (h : ArrsBody B' C' o off w xs F) (hw : Win B C w w') (hd : C' ≤ B ∨ C ≤ B') : ArrsBody B' C' o off w' xs F := by
  obtain ⟨cur, t, fr, hg, hc⟩ := h.outer
  have h1 := h.lo
  have h2 := h.hi
  exact ⟨h.len, h.lo, h.hi, ⟨cur, t, fr, by rw [hw.block o h.lt (by omega)]; exact hg, hc⟩, fun j hj => (h.piece j hj).win hw hd, h.apart, h.far⟩
theorem Arrs.keep {B C : Nat} {w w' : World} {v : Value} {F : List (List Int)} (h : Arrs B C w v F) (hb : Below w.heap.size w w') : Arrs B C w' v F := by
  obtain ⟨a, n, c, rfl, hF, h⟩ := h
  refine ⟨a, n, c, rfl, hF, ?_⟩
  rcases h with h | ⟨o, off, xs, rfl, h⟩
  · exact .inl h
  · exact .inr ⟨o, off, xs, rfl, h.keep hb⟩
theorem Arrs.win {B C B' C' : Nat} {w w' : World} {v : Value} {F : List (List Int)} (h : Arrs B' C' w v F) (hw : Win B C w w') (hd : C' ≤ B ∨ C ≤ B') : Arrs B' C' w' v F := by
  obtain ⟨a, n, c, rfl, hF, h⟩ := h
  refine ⟨a, n, c, rfl, hF, ?_⟩
  rcases h with h | ⟨o, off, xs, rfl, h⟩
  · exact .inl h
  · exact .inr ⟨o, off, xs, rfl, h.win hw hd⟩
theorem Arrs.mono {B C B' C' : Nat} {w : World} {v : Value} {F : List (List Int)} (h : Arrs B C w v F) (hB : B' ≤ B) (hC : C ≤ C') : Arrs B' C' w v F := by
  obtain ⟨a, n, c, rfl, hF, h⟩ := h
  refine ⟨a, n, c, rfl, hF, ?_⟩
  rcases h with h | ⟨o, off, xs, rfl, h⟩
  · exact .inl h
  · have h1 := h.lo
    have h2 := h.hi
    exact .inr ⟨o, off, xs, rfl, h.len, by omega, by omega, h.outer, fun j hj => (h.piece j hj).mono hB hC, h.apart, h.far⟩
/-- How many numbers the first j lists have. -/
def sumTo (F : List (List Int)) (j : Nat) : Nat := ((F.take j).map List.length).sum
theorem sumTo_zero (F : List (List Int)) : sumTo F 0 = 0 := by simp [sumTo]
theorem sumTo_succ (F : List (List Int)) (j : Nat) : sumTo F (j + 1) = sumTo F j + (F.getD j []).length := by
  unfold sumTo
  by_cases h : j < F.length
  · have e : F.getD j [] = F[j] := by simp [h]
    rw [List.take_succ_eq_append_getElem h, e]
    simp only [List.map_append, List.sum_append, List.map_cons, List.map_nil, List.sum_cons, List.sum_nil, Nat.add_zero]
  · rw [List.take_of_length_le (by omega), List.take_of_length_le (by omega)]
    simp [List.getD, List.getElem?_eq_none (Nat.le_of_not_lt h)]
theorem sumTo_le (F : List (List Int)) (i j : Nat) (h : i ≤ j) : sumTo F i ≤ sumTo F j := by
  induction j with
  | zero => obtain rfl : i = 0 := by omega
            exact Nat.le_refl _
  | succ j ih =>
    by_cases e : i = j + 1
    · subst e; exact Nat.le_refl _
    · have := ih (by omega)
      rw [sumTo_succ]
      omega
theorem sumTo_all (F : List (List Int)) (j : Nat) : sumTo F j ≤ sumTo F F.length := by
  by_cases h : j ≤ F.length
  · exact sumTo_le F j _ h
  · unfold sumTo
    rw [List.take_of_length_le (by omega), List.take_of_length_le (by omega)]
    exact Nat.le_refl _
/-- The lists, the first j of them marked. -/
def mkF (F : List (List Int)) (k0 : Int) (j i : Nat) : List Int := if i < j then upFrom (k0 + sumTo F i) (F.getD i []).length else F.getD i []
def markF (F : List (List Int)) (k0 : Int) (j : Nat) : List (List Int) := (List.range F.length).map (mkF F k0 j)
theorem markF_length (F : List (List Int)) (k0 : Int) (j : Nat) : (markF F k0 j).length = F.length := by simp [markF]
theorem markF_at {F : List (List Int)} {k0 : Int} {j i : Nat} (h : i < F.length) : (markF F k0 j).getD i [] = mkF F k0 j i := by simp [markF, h]
theorem markF_zero (F : List (List Int)) (k0 : Int) : markF F k0 0 = F := by
  apply List.ext_getElem
  · simp [markF]
  · intro i h1 h2
    simp [markF, mkF, h2]
theorem ArrsBody.mark {B C o off j : Nat} {w w' : World} {xs : List Value} {F : List (List Int)} {k0 : Int} (h : ArrsBody B C o off w xs (markF F k0 j)) (hj : j < xs.length) (hp : Piece B C w' (xs.getD j undef) (upFrom (k0 + sumTo F j) (F.getD j []).length)) (ho : Only (xs.getD j undef) w w') :
    ArrsBody B C o off w' xs (markF F k0 (j + 1)) := by
  have hl : xs.length = F.length := by rw [h.len, markF_length]
  obtain ⟨cur, t, fr, hg, hc⟩ := h.outer
  refine ⟨by rw [markF_length]; exact hl, h.lo, h.hi, ⟨cur, t, fr, by rw [ho.block o h.lt (h.far j hj)]; exact hg, hc⟩, fun i hi => ?_, h.apart, h.far⟩
  rw [markF_at (by omega)]
  by_cases e : i = j
  · subst e
    unfold mkF
    rw [if_pos (by omega)]
    exact hp
  · have q := h.piece i hi
    rw [markF_at (by omega)] at q
    have e2 : mkF F k0 (j + 1) i = mkF F k0 j i := by
      unfold mkF
      by_cases e3 : i < j
      · rw [if_pos e3, if_pos (by omega)]
      · rw [if_neg e3, if_neg (by omega)]
    rw [e2]
    refine q.only ho ?_
    by_cases e4 : i < j
    · exact (h.apart i j e4 hj).symm
    · exact h.apart j i (by omega) hi
theorem ArrsBody.onlyWin {B C o off j : Nat} {w w' : World} {xs : List Value} {F : List (List Int)} (h : ArrsBody B C o off w xs F) (hj : j < xs.length) (ho : Only (xs.getD j undef) w w') : Win B C w w' := ho.win (h.piece j hj)
set_option maxRecDepth 20000 in
set_option maxHeartbeats 1000000 in
/-- A list of arrays is marked: its own cells turn, no other one. -/
theorem mark_arrs {B C : Nat} {w : World} {v : Value} {F : List (List Int)} (h : Arrs B C w v F) (hF : ∀ j, (F.getD j []).length ≤ 1048576) (hn : F.length ≤ 1048576) (hT : sumTo F F.length ≤ 1073741824) (k0 : Int) (p1 : 0 ≤ k0) (p2 : k0 ≤ 1073741824) :
    Calls Try.prog 20 #[v, .int .i64 k0] w fun e w' => e = .returned (.int .i64 (k0 + sumTo F F.length)) ∧ Arrs B C w' v (markF F k0 F.length) ∧ Win B C w w' := by
  obtain ⟨a, n, c, rfl, e1, h⟩ := h
  by_cases h0 : n = 0
  · subst h0
    obtain rfl : F = [] := List.eq_nil_of_length_eq_zero (by omega)
    go_enter Try.func20, Try.ntmps20
    go_wp2
    refine wp_loop_rounds 1 ?_
    rw [rounds_succ]
    go_wp2
    go_ret
    exact ⟨by simp [sumTo], ⟨a, 0, c, rfl, rfl, .inl rfl⟩, Win.refl _ _ _⟩
  obtain ⟨o, off, xs, rfl, hA⟩ : ∃ (o off : Nat) (xs : List Value), a = some ⟨o, off, none⟩ ∧ ArrsBody B C o off w xs F := by
    rcases h with h | h
    · exact absurd h h0
    · exact h
  have H : Hid (ArrsBody B C o off w xs (markF F k0 0)) := by show ArrsBody _ _ _ _ _ _ _; rw [markF_zero]; exact hA
  have HL : Hid (xs.length = 2 * n ∧ F.length = 2 * n) := ⟨by rw [hA.len]; exact e1, e1⟩
  have HF : Hid (∀ j, (F.getD j []).length ≤ 1048576) := hF
  have HT : Hid (∀ j, sumTo F j ≤ 1073741824) := fun j => Nat.le_trans (sumTo_all F j) hT
  have hn' : n ≤ 1048576 := by omega
  have E1 : Hid (F.length = 2 * n) := e1
  clear h hA hF hT e1 hn h0
  go_enter Try.func20, Try.ntmps20
  go_wp2
  go_loopw [1, 5] (fun q i w' => ∃ k : Nat, k ≤ n ∧ i = .int .i64 k ∧ q = .int .i64 (k0 + sumTo F (2 * k)) ∧ ArrsBody B C o off w' xs (markF F k0 (2 * k)) ∧ Win B C w w') (fun _ i _ => n - (intOf i).toNat)
  case atStart => exact ⟨0, by omega, rfl, by simp [sumTo_zero], H.out, Win.refl _ _ _⟩
  case round =>
    obtain ⟨k, hk, rfl, rfl, hA, hw⟩ := hrel
    have HA : Hid (ArrsBody B C o off wr xs (markF F k0 (2 * k))) := hA
    have HW : Hid (Win B C w wr) := hw
    clear hw
    by_cases hlt : (k : Int) < (n : Int)
    · have j0 : Hid (2 * k < xs.length) := by have := HL.out.1; show _ < _; omega
      have j1 : Hid (2 * k + 1 < xs.length) := by have := HL.out.1; show _ < _; omega
      have i0 : Hid (2 * k < F.length) := by have := HL.out.2; show _ < _; omega
      have i1 : Hid (2 * k + 1 < F.length) := by have := HL.out.2; show _ < _; omega
      obtain ⟨s, hs⟩ : ∃ s, s = F.getD (2 * k) [] := ⟨_, rfl⟩
      obtain ⟨t, ht⟩ : ∃ t, t = F.getD (2 * k + 1) [] := ⟨_, rfl⟩
      have P0 : Hid (Piece B C wr (xs.getD (2 * k) undef) s) := by
        have q := hA.piece (2 * k) j0.out
        rw [markF_at i0.out] at q
        unfold mkF at q
        rw [if_neg (by omega), ← hs] at q
        exact q
      have Q0 : Hid (sumTo F (2 * k + 1) = sumTo F (2 * k) + s.length) := by show _ = _; rw [sumTo_succ, hs]
      have Q1 : Hid (sumTo F (2 * k + 1 + 1) = sumTo F (2 * k + 1) + t.length) := by show _ = _; rw [sumTo_succ F (2 * k + 1), ht]
      have t0 := HT.out (2 * k)
      have t1 := HT.out (2 * k + 1)
      have l0 : Hid (s.length ≤ 1048576) := by show _ ≤ _; rw [hs]; exact HF.out _
      have l1 : Hid (t.length ≤ 1048576) := by show _ ≤ _; rw [ht]; exact HF.out _
      have HS : Hid (s = F.getD (2 * k) []) := hs
      have HU : Hid (t = F.getD (2 * k + 1) []) := ht
      obtain ⟨ax, cx, ex, _⟩ := P0.out.ints
      have EX : Hid (xs.getD (2 * k) undef = .slice ax s.length cx) := ex
      have p0 : wr.cell? ⟨o, off + k * 2, none⟩ = some (.slice ax s.length cx) := by
        have q := hA.cell j0.out
        rw [EX.out, Nat.mul_comm 2 k] at q
        exact q
      have P1 : Hid (Piece B C wr (.slice ax s.length cx) s) := by show Piece _ _ _ _ _; rw [← EX.out]; exact P0.out
      clear hA hs ht ex P0
      generalize hz0 : (sumTo F (2 * k) : Nat) = z0 at *
      generalize hz1 : (sumTo F (2 * k + 1) : Nat) = z1 at *
      go_wp2_with fail
      refine (mark_piece P1.out l0.out (k0 + z0) (by omega) (by omega)).mono ?_
      rintro r w1 ⟨rfl, hp, ho⟩
      have HA1 : Hid (ArrsBody B C o off w1 xs (markF F k0 (2 * k + 1))) := HA.out.mark j0.out (by rw [EX.out, hz0, ← HS.out]; exact hp) (by rw [EX.out]; exact ho)
      have HW1 : Hid (Win B C w w1) := HW.out.trans (ho.win P1.out)
      have P2 : Hid (Piece B C w1 (xs.getD (2 * k + 1) undef) t) := by
        have q := HA1.out.piece (2 * k + 1) j1.out
        rw [markF_at i1.out] at q
        unfold mkF at q
        rw [if_neg (by omega), ← HU.out] at q
        exact q
      obtain ⟨ay, cy, ey, _⟩ := P2.out.ints
      have EY : Hid (xs.getD (2 * k + 1) undef = .slice ay t.length cy) := ey
      have q0 : w1.cell? ⟨o, off + k * 2 + 1, none⟩ = some (.slice ay t.length cy) := by
        have q := HA1.out.cell j1.out
        rw [EY.out, Nat.mul_comm 2 k, ← Nat.add_assoc] at q
        exact q
      have P3 : Hid (Piece B C w1 (.slice ay t.length cy) t) := by show Piece _ _ _ _ _; rw [← EY.out]; exact P2.out
      have Z1 : Hid ((z1 : Int) = z0 + s.length) := by have := Q0.out; show _ = _; omega
      clear hp ho ey P2 p0
      rw [show k0 + (z0 : Int) + (s.length : Int) = k0 + z1 by have := Z1.out; omega]
      go_wp2_with fail
      refine (mark_piece P3.out l1.out (k0 + z1) (by omega) (by omega)).mono ?_
      rintro r w2 ⟨rfl, hp, ho⟩
      have HA2 : Hid (ArrsBody B C o off w2 xs (markF F k0 (2 * k + 1 + 1))) := HA1.out.mark j1.out (by rw [EY.out, hz1, ← HU.out]; exact hp) (by rw [EY.out]; exact ho)
      have HW2 : Hid (Win B C w w2) := HW1.out.trans (ho.win P3.out)
      clear hp ho
      go_wp2
      go_roundw
      case rel => exact ⟨k + 1, by omega, by go_num, by rw [show 2 * (k + 1) = 2 * k + 1 + 1 by omega, Q1.out]; congr 1; omega, by rw [show 2 * (k + 1) = 2 * k + 1 + 1 by omega]; exact HA2.out, HW2.out⟩
      case measure => simp [intOf]; omega
    · have e : k = n := by omega
      subst e
      have hE : Hid (F.length = 2 * k) := E1.out
      clear hA
      go_wp2
      go_ret
      refine ⟨by rw [hE.out]; rfl, ⟨_, _, _, rfl, by rw [markF_length]; exact hE.out, .inr ⟨o, off, xs, rfl, by rw [hE.out]; exact HA.out⟩⟩, HW.out⟩
set_option maxRecDepth 20000 in
set_option maxHeartbeats 1000000 in
/-- What is marked is held. -/
theorem held_arrs {B C : Nat} {w : World} {v : Value} {F : List (List Int)} (k0 : Int) (h : Arrs B C w v (markF F k0 F.length)) (hF : ∀ j, (F.getD j []).length ≤ 1048576) (hn : F.length ≤ 1048576) (hT : sumTo F F.length ≤ 1073741824) (p1 : 0 ≤ k0) (p2 : k0 ≤ 1073741824) :
    Calls Try.prog 21 #[v, .int .i64 k0] w fun e w' => e = .returned (.int .i64 (k0 + sumTo F F.length)) ∧ Below w.heap.size w w' := by
  obtain ⟨a, n, c, rfl, e1, h⟩ := h
  rw [markF_length] at e1
  by_cases h0 : n = 0
  · subst h0
    obtain rfl : F = [] := List.eq_nil_of_length_eq_zero (by omega)
    go_enter Try.func21, Try.ntmps21
    go_wp2
    refine wp_loop_rounds 1 ?_
    rw [rounds_succ]
    go_wp2
    go_ret
    exact ⟨by simp [sumTo], Below.refl _ _⟩
  obtain ⟨o, off, xs, rfl, hA⟩ : ∃ (o off : Nat) (xs : List Value), a = some ⟨o, off, none⟩ ∧ ArrsBody B C o off w xs (markF F k0 F.length) := by
    rcases h with h | h
    · exact absurd h h0
    · exact h
  have HA : Hid (ArrsBody B C o off w xs (markF F k0 F.length)) := hA
  have HL : Hid (xs.length = 2 * n ∧ F.length = 2 * n) := ⟨by rw [hA.len, markF_length]; exact e1, e1⟩
  have HF : Hid (∀ j, (F.getD j []).length ≤ 1048576) := hF
  have HT : Hid (∀ j, sumTo F j ≤ 1073741824) := fun j => Nat.le_trans (sumTo_all F j) hT
  have hn' : n ≤ 1048576 := by omega
  have E1 : Hid (F.length = 2 * n) := e1
  clear h hA hF hT e1 hn h0
  go_enter Try.func21, Try.ntmps21
  go_wp2
  go_loop [1, 5] (fun q i => ∃ k : Nat, k ≤ n ∧ i = .int .i64 k ∧ q = .int .i64 (k0 + sumTo F (2 * k))) (fun _ i => n - (intOf i).toNat)
  case atStart => exact ⟨0, by omega, rfl, by simp [sumTo_zero]⟩
  case round =>
    obtain ⟨k, hk, rfl, rfl⟩ := hrel
    by_cases hlt : (k : Int) < (n : Int)
    · have j0 : Hid (2 * k < xs.length) := by have := HL.out.1; show _ < _; omega
      have j1 : Hid (2 * k + 1 < xs.length) := by have := HL.out.1; show _ < _; omega
      have i0 : Hid (2 * k < F.length) := by have := HL.out.2; show _ < _; omega
      have i1 : Hid (2 * k + 1 < F.length) := by have := HL.out.2; show _ < _; omega
      obtain ⟨s, hs⟩ : ∃ s, s = (F.getD (2 * k) []).length := ⟨_, rfl⟩
      obtain ⟨t, ht⟩ : ∃ t, t = (F.getD (2 * k + 1) []).length := ⟨_, rfl⟩
      have P0 : Hid (Piece B C w (xs.getD (2 * k) undef) (upFrom (k0 + sumTo F (2 * k)) s)) := by
        have q := HA.out.piece (2 * k) j0.out
        rw [markF_at i0.out] at q
        unfold mkF at q
        rw [if_pos i0.out, ← hs] at q
        exact q
      have P2 : Hid (Piece B C w (xs.getD (2 * k + 1) undef) (upFrom (k0 + sumTo F (2 * k + 1)) t)) := by
        have q := HA.out.piece (2 * k + 1) j1.out
        rw [markF_at i1.out] at q
        unfold mkF at q
        rw [if_pos i1.out, ← ht] at q
        exact q
      have Q0 : Hid (sumTo F (2 * k + 1) = sumTo F (2 * k) + s) := by show _ = _; rw [sumTo_succ, hs]
      have Q1 : Hid (sumTo F (2 * k + 1 + 1) = sumTo F (2 * k + 1) + t) := by show _ = _; rw [sumTo_succ F (2 * k + 1), ht]
      have t0 := HT.out (2 * k)
      have t1 := HT.out (2 * k + 1)
      have l0 : Hid (s ≤ 1048576) := by show _ ≤ _; rw [hs]; exact HF.out _
      have l1 : Hid (t ≤ 1048576) := by show _ ≤ _; rw [ht]; exact HF.out _
      obtain ⟨ax, cx, ex, _⟩ := P0.out.ints
      obtain ⟨ay, cy, ey, _⟩ := P2.out.ints
      rw [upFrom_length] at ex ey
      have p0 : w.cell? ⟨o, off + k * 2, none⟩ = some (.slice ax s cx) := by
        have q := HA.out.cell j0.out
        rw [ex, Nat.mul_comm 2 k] at q
        exact q
      have q0 : w.cell? ⟨o, off + k * 2 + 1, none⟩ = some (.slice ay t cy) := by
        have q := HA.out.cell j1.out
        rw [ey, Nat.mul_comm 2 k, ← Nat.add_assoc] at q
        exact q
      have P1 : Hid (Piece B C w (.slice ax s cx) (upFrom (k0 + sumTo F (2 * k)) s)) := by show Piece _ _ _ _ _; rw [← ex]; exact P0.out
      have P3 : Hid (Piece B C w (.slice ay t cy) (upFrom (k0 + sumTo F (2 * k + 1)) t)) := by show Piece _ _ _ _ _; rw [← ey]; exact P2.out
      clear hs ht ex ey P0 P2
      generalize sumTo F (2 * k) = z0 at *
      generalize sumTo F (2 * k + 1) = z1 at *
      have Z1 : Hid ((z1 : Int) = z0 + s) := by have := Q0.out; show _ = _; omega
      go_wp2_with fail
      refine (held_piece (k0 + z0) P1.out l0.out (by omega) (by omega)).mono ?_
      rintro r w' ⟨rfl, hw⟩
      subst w'
      rw [show k0 + (z0 : Int) + (s : Int) = k0 + z1 by have := Z1.out; omega]
      go_wp2_with fail
      refine (held_piece (k0 + z1) P3.out l1.out (by omega) (by omega)).mono ?_
      rintro r w' ⟨rfl, hw⟩
      subst w'
      go_wp2
      go_round
      case rel => exact ⟨k + 1, by omega, by go_num, by rw [show 2 * (k + 1) = 2 * k + 1 + 1 by omega, Q1.out]; congr 1; omega⟩
      case measure => simp [intOf]; omega
    · have e : k = n := by omega
      subst e
      have hE : Hid (F.length = 2 * k) := E1.out
      go_wp2
      go_ret
      exact ⟨by rw [hE.out]; rfl, Below.refl _ _⟩
end Go.Proofs.Ytmknleholglhbaa
