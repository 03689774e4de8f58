/-
  Several texts, one behind the other: TurnF, ImplInnP, OutB.
-/
import Derived.Test.YthbppjkafbhdaaaY38
import Derived.Test.YthbppjkafbhdaaaY13
import Derived.Test.YthbppjkafbhdaaaY14
import Derived.Test.YthbppjkafbhdaaaY23
import Derived.Test.YthbppjkafbhdaaaY3
namespace Go.Proofs.Ythbppjkafbhdaaa
set_option linter.unusedVariables false
theorem rows_join (d : List Int) (N : Nat) : ∀ n, (List.range n).flatMap (fun i => (d.drop (i * N)).take N) = d.take (n * N) := by
  intro n
  induction n with
  | zero => simp
  | succ n ih =>
    rw [List.range_succ, List.flatMap_append, ih, Nat.add_mul, Nat.one_mul, List.take_add]
    simp
theorem all_rows {s d : List Int} (ho : arrOk s d = true) (hs : s ≠ []) : (List.range (rowsN s)).flatMap (fun i => rowAt s d i) = d := by
  have h := rows_join d (rowN s) (rowsN s)
  rw [rows5 ho hs, List.take_length] at h
  exact h
/-- Rows chosen by a rule: what comes is right, and its rows are those. -/
theorem chosen_rows {s d : List Int} (ho : arrOk s d = true) (hs : s ≠ []) (σ : Nat → Nat) (hσ : ∀ i, i < rowsN s → σ i < rowsN s) :
    arrOk s ((List.range (rowsN s)).flatMap (fun i => rowAt s d (σ i))) = true ∧ ∀ k, k < rowsN s → rowAt s ((List.range (rowsN s)).flatMap (fun i => rowAt s d (σ i))) k = rowAt s d (σ k) := by
  have hl : ∀ i, i < rowsN s → (rowAt s d (σ i)).length = rowN s := fun i hi => rowAt_len ho hs (hσ i hi)
  constructor
  · have hz := arrOk_size ho
    have hd : d.all ok = true := by unfold arrOk at ho; rw [Bool.and_eq_true] at ho; exact ho.2
    have hlen : ((List.range (rowsN s)).flatMap (fun i => rowAt s d (σ i))).length = d.length := by
      by_cases h0 : rowsN s = 0
      · have := rows5 ho hs
        rw [h0] at this ⊢
        simp at this ⊢
        omega
      · rw [← rows5 ho hs]; exact (flat_at 0 (rowsN s) (by omega) hl).2
    unfold arrOk
    rw [Bool.and_eq_true, hlen]
    refine ⟨by simpa using hz, ?_⟩
    rw [List.all_eq_true] at hd ⊢
    intro y hy
    rw [List.mem_flatMap] at hy
    obtain ⟨i, _, hy⟩ := hy
    exact hd y (List.mem_of_mem_drop (List.mem_of_mem_take hy))
  · intro k hk
    exact (flat_at k (rowsN s) hk hl).1
theorem flat_ext {n : Nat} {f g : Nat → List Int} (h : ∀ i, i < n → f i = g i) : (List.range n).flatMap f = (List.range n).flatMap g := by
  induction n with
  | zero => rfl
  | succ n ih => rw [List.range_succ, List.flatMap_append, List.flatMap_append, ih (fun i hi => h i (by omega))]; simp [h n (by omega)]
theorem turn_ok {s d : List Int} (ho : arrOk s d = true) : arrOk s (turnD s d) = true ∧ turnD s (turnD s d) = d := by
  by_cases hs : s = []
  · unfold turnD; rw [if_pos hs, if_pos hs]; exact ⟨ho, rfl⟩
  · have e : ∀ x, turnD s x = (List.range (rowsN s)).flatMap (fun i => rowAt s x (rowsN s - 1 - i)) := fun x => by unfold turnD; rw [if_neg hs]
    obtain ⟨q1, q2⟩ := chosen_rows ho hs (fun i => rowsN s - 1 - i) (fun i hi => by omega)
    rw [← e d] at q1 q2
    refine ⟨q1, ?_⟩
    rw [e (turnD s d), flat_ext (g := fun i => rowAt s d i) (fun i hi => by rw [q2 _ (by omega)]; congr 1; omega)]
    exact all_rows ho hs
theorem rot_ok {t f : List Int} (x : Int) (ho : arrOk t f = true) : arrOk t (rotateD x t f) = true ∧ rotateD (0 - x) t (rotateD x t f) = f := by
  by_cases hn : t = [] ∨ t.getD 0 0 = 0
  · rw [rot_none hn, rot_none hn]; exact ⟨ho, rfl⟩
  · have hs : t ≠ [] := fun h => hn (.inl h)
    have hb := head_bd ho
    have h0 : t.getD 0 0 ≠ 0 := fun h => hn (.inr h)
    have hp : 0 < rowsN t := by unfold rowsN; omega
    have e : ∀ x f, rotateD x t f = (List.range (rowsN t)).flatMap (fun i => rowAt t f ((i + rotateBy x (rowsN t)) % rowsN t)) := fun x f => by unfold rotateD; rw [if_neg hn]
    obtain ⟨q1, q2⟩ := chosen_rows ho hs (fun i => (i + rotateBy x (rowsN t)) % rowsN t) (fun i hi => Nat.mod_lt _ hp)
    rw [← e x f] at q1 q2
    refine ⟨q1, ?_⟩
    rw [e (0 - x) (rotateD x t f), flat_ext (g := fun i => rowAt t f i) (fun i hi => by
      rw [q2 _ (Nat.mod_lt _ hp)]
      congr 1
      unfold rotateBy
      generalize rowsN t = n at *
      have a1 := Int.emod_nonneg x (b := (n : Int)) (by omega)
      have a2 := Int.emod_nonneg (0 - x) (b := (n : Int)) (by omega)
      have e1 : ((x % (n : Int)).toNat : Int) = x % (n : Int) := Int.toNat_of_nonneg a1
      have e2 : (((0 - x) % (n : Int)).toNat : Int) = (0 - x) % (n : Int) := Int.toNat_of_nonneg a2
      have key : (((((i + ((0 - x) % (n : Int)).toNat) % n + (x % (n : Int)).toNat) % n : Nat)) : Int) = (i : Int) := by
        push_cast
        rw [e1, e2]
        rw [Int.emod_add_emod, Int.add_emod_emod]
        rw [show (i : Int) + (0 - x) % (n : Int) + x = (i + x) + (0 - x) % (n : Int) by omega, Int.add_emod_emod]
        rw [show (i : Int) + x + (0 - x) = (i : Int) by omega]
        exact Int.emod_eq_of_lt (by omega) (by omega)
      omega)]
    exact all_rows ho hs
theorem flip_ok {s d : List Int} (ho : arrOk s d = true) : arrOk s.reverse (flipD s d) = true ∧ flipD s.reverse (flipD s d) = d := by
  have hz := arrOk_size ho
  have hsh := arrOk_shape ho
  have hr := size_rev hsh
  have hd : d.all ok = true := by unfold arrOk at ho; rw [Bool.and_eq_true] at ho; exact ho.2
  have hlen : (flipD s d).length = d.length := by simp [flipD]
  have hq : arrOk s.reverse (flipD s d) = true := by
    unfold arrOk
    rw [Bool.and_eq_true, hlen, hr]
    refine ⟨by simpa using hz, ?_⟩
    rw [List.all_eq_true] at hd ⊢
    intro y hy
    unfold flipD at hy
    rw [List.mem_map] at hy
    obtain ⟨i, hi, rfl⟩ := hy
    rw [List.mem_range] at hi
    obtain ⟨p0, p1, _⟩ := flip_place ho i hi
    have hlt : (placeV s (indexV s.reverse (i : Int)).reverse).toNat < d.length := by omega
    rw [List.getD_eq_getElem?_getD, List.getElem?_eq_getElem hlt]
    exact hd _ (List.getElem_mem hlt)
  refine ⟨hq, ?_⟩
  apply List.ext_getElem
  · simp [flipD]
  · intro i h1 h2
    have hi : i < (flipD s d).length := by rw [hlen]; exact h2
    obtain ⟨p0, p1, _⟩ := flip_place hq i hi
    rw [List.reverse_reverse] at p0 p1
    obtain ⟨P, hP⟩ : ∃ P : Nat, placeV s.reverse (indexV s (i : Int)).reverse = (P : Int) := ⟨(placeV s.reverse (indexV s (i : Int)).reverse).toNat, by omega⟩
    have hPl : P < d.length := by rw [hlen] at p1; omega
    have e1 : (flipD s.reverse (flipD s d))[i] = (flipD s d).getD P 0 := by
      simp only [flipD, List.getElem_map, List.getElem_range, List.reverse_reverse, hP, Int.toNat_natCast]
    have e2 : (flipD s d).getD P 0 = d.getD (placeV s (indexV s.reverse (P : Int)).reverse).toNat 0 := by
      simp [flipD, hPl]
    have e3 : indexV s.reverse (P : Int) = (indexV s (i : Int)).reverse := by
      rw [← hP]
      exact index_of_place (by omega)
    have e4 := (place_of_index (s := s) (p := (i : Int)) hsh (by omega) (by omega)).2
    rw [e1, e2, e3, List.reverse_reverse, e4, Int.toNat_natCast, List.getD_eq_getElem?_getD, List.getElem?_eq_getElem h2]
    rfl
end Go.Proofs.Ythbppjkafbhdaaa
namespace Go.Proofs.Ythbppjkafbhdaaa
open Go.RowKit Go.Shelf
set_option linter.unusedVariables false
set_option linter.unusedSimpArgs false
theorem neu_right (f : Int) : ok (neu f).1 = true := by
  unfold neu
  repeat' split
  all_goals decide
theorem vecs_row {s d t e : List Int} {nR n nC : Nat} (h : InnerD s d t e nR n nC) (ho : arrOk s d = true) :
    (vecsF s d).length = 2 * nR ∧ ∀ i, i < nR → (vecsF s d).getD (2 * i) [] = [(n : Int)] ∧ (vecsF s d).getD (2 * i + 1) [] = rowV d n i ∧ arrOk [(n : Int)] (rowV d n i) = true := by
  obtain ⟨h1, _, hd, _, _, hn, _⟩ := h
  rcases h1 with ⟨rfl, rfl⟩ | rfl
  · refine ⟨rfl, fun i hi => ?_⟩
    obtain rfl : i = 0 := by omega
    have e : rowV d n 0 = d := by unfold rowV; rw [Nat.zero_mul, List.drop_zero]; exact List.take_of_length_le (by omega)
    rw [e]
    exact ⟨rfl, rfl, ho⟩
  · have e0 : vecsF [(nR : Int), (n : Int)] d = flatR [(n : Int)] (rowsD [(nR : Int), (n : Int)] d) := rfl
    have e1 : rowsN [(nR : Int), (n : Int)] = nR := rfl
    have e2 : rowN [(nR : Int), (n : Int)] = n := by show (sizeV [(n : Int)]).toNat = n; rw [size_p1 n hn]; rfl
    rw [e0]
    refine ⟨by rw [flatR_len, rowsD_len, e1], fun i hi => ?_⟩
    have q := flatR_at [(n : Int)] (rowsD [(nR : Int), (n : Int)] d) (i := i) (by rw [rowsD_len, e1]; exact hi)
    have q2 := rowsD_at [(nR : Int), (n : Int)] d (i := i) (by rw [e1]; exact hi)
    have q3 : rowAt [(nR : Int), (n : Int)] d i = rowV d n i := by unfold rowAt rowV; rw [e2]
    have q4 := rowsD_ok ho (by simp) i (by rw [rowsD_len, e1]; exact hi)
    rw [q2, q3] at q4
    rw [q2, q3] at q
    exact ⟨q.1, q.2, q4⟩
theorem vecs_col {s d t e : List Int} {nR n nC : Nat} (h : InnerD s d t e nR n nC) (ho : arrOk t e = true) :
    (vecsF t.reverse (flipD t e)).length = 2 * nC ∧ ∀ j, j < nC → (vecsF t.reverse (flipD t e)).getD (2 * j) [] = [(n : Int)] ∧ (vecsF t.reverse (flipD t e)).getD (2 * j + 1) [] = colV e n nC j ∧ arrOk [(n : Int)] (colV e n nC j) = true := by
  have he3 := arrOk_len ho
  obtain ⟨_, h2, _, he, _, hn, hc⟩ := h
  rcases h2 with ⟨rfl, rfl⟩ | rfl
  · refine ⟨rfl, fun i hi => ?_⟩
    obtain rfl : i = 0 := by omega
    obtain ⟨q1, q2⟩ := flip_vec (e := e) hn (by omega)
    refine ⟨rfl, ?_, by rw [q2]; exact ho⟩
    show flipD [(n : Int)] e = _
    rw [q1, q2]
  · have e0 : vecsF [(n : Int), (nC : Int)].reverse (flipD [(n : Int), (nC : Int)] e) = flatR [(n : Int)] (rowsD [(nC : Int), (n : Int)] (flipD [(n : Int), (nC : Int)] e)) := rfl
    have e1 : rowsN [(nC : Int), (n : Int)] = nC := rfl
    have e2 : rowN [(nC : Int), (n : Int)] = n := by show (sizeV [(n : Int)]).toNat = n; rw [size_p1 n hn]; rfl
    rw [e0]
    refine ⟨by rw [flatR_len, rowsD_len, e1], fun i hi => ?_⟩
    have q := flatR_at [(n : Int)] (rowsD [(nC : Int), (n : Int)] (flipD [(n : Int), (nC : Int)] e)) (i := i) (by rw [rowsD_len, e1]; exact hi)
    have q2 := rowsD_at [(nC : Int), (n : Int)] (flipD [(n : Int), (nC : Int)] e) (i := i) (by rw [e1]; exact hi)
    have q3 : rowAt [(nC : Int), (n : Int)] (flipD [(n : Int), (nC : Int)] e) i = colV e n nC i := by unfold rowAt; rw [e2]; exact flip_col hn hc he (by omega) hi
    have q4 := rowsD_ok (s := [(nC : Int), (n : Int)]) (flip_ok ho).1 (by simp) i (by rw [rowsD_len, e1]; exact hi)
    rw [q2, q3] at q4
    rw [q2, q3] at q
    exact ⟨q.1, q.2, q4⟩
/-- What strung makes of the numbers. -/
theorem inner_strung {N : Nat} {c : Nat → Int × Int} (SH : List Int) : mkR (firstC (fun k => (c k).2) N) SH ((List.range N).flatMap (fun k => if (c k).2 = 0 then [(c k).1] else [])) = mkR (firstC (fun k => (c k).2) N) SH ((List.range N).map (fun k => (c k).1)) := by
  by_cases h : firstC (fun k => (c k).2) N = 0
  · rw [flat_cells h]
  · rw [mkR_bad h, mkR_bad h]
/-- A block with a list of arrays in it. -/
def One (W : World) (q : Nat) (x : Value) : Prop := W.heap[q]? = some (.cells #[x] 55 (0, 0))
namespace One
theorem keep {W W' : World} {q : Nat} {x : Value} (h : One W q x) (hb : Below W.heap.size W W') : One W' q x := by
  unfold One at *; rw [hb.block q (lt_of_heapA h)]; exact h
theorem c0 {W : World} {q : Nat} {x : Value} (h : One W q x) : W.cell? ⟨q, 0, none⟩ = some x := cell_at h rfl
theorem free {W : World} {q : Nat} {x : Value} (h : One W q x) : W.frozen? ⟨q, 0, none⟩ = false := free_at h 0
theorem lt {W : World} {q : Nat} {x : Value} (h : One W q x) : q < W.heap.size := lt_of_heapA h
theorem set {W : World} {q : Nat} {x : Value} (h : One W q x) (y : Value) : One (W.setCell ⟨q, 0, none⟩ y) q y := by
  have h1 := heap_setCell_same W q 0 _ _ y h
  simpa [One] using h1
theorem other {W : World} {q p : Nat} {x : Value} (h : One W q x) (hne : q ≠ p) (y : Value) : One (W.setCell ⟨p, 0, none⟩ y) q x := by
  unfold One; rw [heap_setCell_other _ _ _ _ (by show q ≠ p; exact hne)]; exact h
theorem new (W : World) (x : Value) : One (W.alloc (.cells #[x] 55)) W.heap.size x := heap_alloc_new W _
end One
theorem one_new2 (W : World) (O : Obj) (x : Value) : One ((W.alloc O).alloc (.cells #[x] 55)) (W.heap.size + 1) x := by
  have h := One.new (W.alloc O) x
  rw [World.size_alloc] at h
  exact h
theorem one_old2 (W : World) (O : Obj) (x : Value) : One ((W.alloc (.cells #[x] 55)).alloc O) W.heap.size x := (One.new W x).keep (bAlloc (Below.refl _ _) _)
theorem cell_other {W : World} {q : Nat} {p : Addr} {x : Value} (h : p.block ≠ q) : (W.setCell ⟨q, 0, none⟩ x).cell? p = W.cell? p := by
  simp only [World.cell?]
  rw [heap_setCell_other _ _ _ _ (by show p.block ≠ q; exact h)]
theorem one_cell {W : World} {q o : Nat} {x v : Value} (h : One W q x) (hc : W.cell? ⟨q, o, none⟩ = some v) : o = 0 ∧ v = x := by
  have h' : W.heap[q]? = some (.cells #[x] 55 (0, 0)) := h
  simp only [World.cell?, h'] at hc
  rcases o with _ | o
  · exact ⟨rfl, by simpa using hc.symm⟩
  · simp at hc
theorem ints_set {W : World} {q : Nat} {x y : Value} {a : Option Addr} {l : List Int} (hq : One W q x) (hx : ∃ a n c, x = .slice a n c) (h : Ints W a l) : Ints (W.setCell ⟨q, 0, none⟩ y) a l := by
  rcases h with h | ⟨b, off, e, hB, hc⟩
  · exact .inl h
  · by_cases hl : l.length = 0
    · exact .inl (List.eq_nil_of_length_eq_zero hl)
    refine .inr ⟨b, off, e, by rw [size_setCell]; exact hB, fun k hk => ?_⟩
    have hne : b ≠ q := fun hbq => by
      have h0 := hc k hk
      rw [hbq] at h0
      obtain ⟨a, n, c, rfl⟩ := hx
      have := (one_cell hq h0).2
      cases this
    rw [cell_other (by exact hne)]
    exact hc k hk
theorem arrs_set {W : World} {q : Nat} {x y v : Value} {F : List (List Int)} (hq : One W q x) (hx : ∃ a n c, x = .slice a n c) (h : ArrsI W v F) : ArrsI (W.setCell ⟨q, 0, none⟩ y) v F := by
  obtain ⟨a, n, c, rfl, hF, h⟩ := h
  refine ⟨a, n, c, rfl, hF, ?_⟩
  rcases h with h | ⟨o, off, xs, e, ho, hx', hj⟩
  · exact .inl h
  · by_cases hn : n = 0
    · exact .inl hn
    have hne : o ≠ q := fun hoq => by
      have h1 := (hj 1 (by omega)).1
      rw [hoq] at h1
      have := (one_cell hq h1).1
      omega
    refine .inr ⟨o, off, xs, e, by rw [size_setCell]; exact ho, hx', fun j h => ⟨?_, ?_⟩⟩
    · rw [cell_other (by exact hne)]; exact (hj j h).1
    · obtain ⟨a2, c2, e2, hle, h2⟩ := (hj j h).2
      exact ⟨a2, c2, e2, hle, ints_set hq hx h2⟩
/-- Two lists of arrays, each in a block of its own. -/
def VecsAt (W0 W : World) (g7 g8 : Nat) (x y : Value) (FX FY : List (List Int)) : Prop :=
  One W g7 x ∧ One W g8 y ∧ ArrsI W x FX ∧ ArrsI W y FY ∧ Below W0.heap.size W0 W
theorem put_two {w V : World} {q p : Nat} {x y x0 y0 : Value} {FX FY : List (List Int)} (hb : Below w.heap.size w V) (hq : w.heap.size ≤ q) (hp : w.heap.size ≤ p) (hne : q ≠ p)
    (bq : One V q x0) (bp : One V p y0) (e0 : ∃ a n c, x0 = .slice a n c) (e1 : ∃ a n c, y0 = .slice a n c) (ax : ArrsI V x FX) (ay : ArrsI V y FY) : VecsAt w ((V.setCell ⟨q, 0, none⟩ x).setCell ⟨p, 0, none⟩ y) q p x y FX FY :=
  ⟨(bq.set x).other hne y, (bp.other (fun h => hne h.symm) x).set y, arrs_set (bp.other (fun h => hne h.symm) x) e1 (arrs_set bq e0 ax), arrs_set (bp.other (fun h => hne h.symm) x) e1 (arrs_set bq e0 ay), below_setCell (below_setCell hb hq _ _) hp _ _⟩
theorem VecsAt.swap {w V : World} {q p : Nat} {x y : Value} {FX FY : List (List Int)} (h : VecsAt w V q p x y FX FY) : VecsAt w V p q y x FY FX := ⟨h.2.1, h.1, h.2.2.2.1, h.2.2.1, h.2.2.2.2⟩
theorem put_lay {w V : World} {q : Nat} {x y x0 : Value} {FX FY : List (List Int)} (hb : Below w.heap.size w V) (hq : w.heap.size ≤ q)
    (bq : One V q x0) (e0 : ∃ a n c, x0 = .slice a n c) (ax : ArrsI V x FX) (ay : ArrsI V y FY) : VecsAt w ((V.setCell ⟨q, 0, none⟩ x).alloc (.cells #[y] 55)) q V.heap.size x y FX FY := by
  have hn := One.new (V.setCell ⟨q, 0, none⟩ x) y
  rw [size_setCell] at hn
  exact ⟨(bq.set x).keep (bAlloc (Below.refl _ _) _), hn, (arrs_set bq e0 ax).keep (bAlloc (Below.refl _ _) _), (arrs_set bq e0 ay).keep (bAlloc (Below.refl _ _) _), bAlloc (below_setCell hb hq _ _) _⟩
theorem lay_two {w V : World} {x y : Value} {FX FY : List (List Int)} (hb : Below w.heap.size w V) (ax : ArrsI V x FX) (ay : ArrsI V y FY) : VecsAt w ((V.alloc (.cells #[x] 55)).alloc (.cells #[y] 55)) V.heap.size (V.heap.size + 1) x y FX FY := by
  have hn := One.new (V.alloc (.cells #[x] 55)) y
  rw [World.size_alloc] at hn
  exact ⟨(One.new V x).keep (bAlloc (Below.refl _ _) _), hn, (ax.keep (bAlloc (Below.refl _ _) _)).keep (bAlloc (Below.refl _ _) _), (ay.keep (bAlloc (Below.refl _ _) _)).keep (bAlloc (Below.refl _ _) _), bAlloc (bAlloc hb _) _⟩
end Go.Proofs.Ythbppjkafbhdaaa
namespace Go.Proofs.Ythbppjkafbhdaaa
open Go.RowKit
set_option linter.unusedVariables false
structure OutB (g : Nat) (W0 wr : World) (sv : Value) (ad : Option Addr) (cd k : Nat) (m : List Int) : Prop where
  box : Box wr g sv (.slice ad k cd) 26
  row : NewInts W0.heap.size wr (.slice ad k cd) m
  win : Win g (g + 1) W0 wr
  lt : g < W0.heap.size
  len : m.length = k
theorem outB_new {W : World} {g : Nat} {sv : Value} (h : Box W g sv (.slice none 0 0) 26) : OutB g W W sv none 0 0 [] :=
  ⟨h, NewInts.nil _ _, ⟨rfl, rfl, rfl, Nat.le_refl _, fun _ _ _ => rfl⟩, h.lt, rfl⟩
theorem OutB.keep {g cd k : Nat} {W0 wr w' : World} {sv : Value} {ad : Option Addr} {m : List Int} (h : OutB g W0 wr sv ad cd k m) (hb : Below wr.heap.size wr w') : OutB g W0 w' sv ad cd k m :=
  ⟨h.box.keep hb, h.row.keep hb, ⟨hb.os.trans h.win.os, hb.tape.trans h.win.tape, hb.output.trans h.win.output, Nat.le_trans h.win.size hb.size, fun k h1 h2 => (hb.block k (Nat.lt_of_lt_of_le h1 h.win.size)).trans (h.win.block k h1 h2)⟩, h.lt, h.len⟩
theorem OutB.cells {g cd k : Nat} {W0 wr : World} {sv : Value} {ad : Option Addr} {m : List Int} (h : OutB g W0 wr sv ad cd k m) : wr.cell? ⟨g, 0, none⟩ = some sv ∧ wr.cell? ⟨g, 1, none⟩ = some (.slice ad k cd) ∧ wr.frozen? ⟨g, 0, none⟩ = false ∧ wr.frozen? ⟨g, 1, none⟩ = false :=
  ⟨h.box.c0, h.box.c1, free_at h.box 0, free_at h.box 1⟩
/-- A list more. -/
theorem OutB.growL {g cd k : Nat} {W0 wr : World} {sv : Value} {ad : Option Addr} {m l : List Int} {a : Option Addr} (h : OutB g W0 wr sv ad cd k m) (hi : Ints wr a l) (hk : k + l.length ≤ 1048576) (c : Nat) :
    ∃ a' c' w', (Builtin.append_ #[24, 24] 24 #[.slice ad k cd, .slice a l.length c]).run Try.prog wr = .ok (.slice a' (k + l.length) c') w' ∧ Box w' g sv (.slice ad k cd) 26 ∧ OutB g W0 (w'.setCell ⟨g, 1, none⟩ (.slice a' (k + l.length) c')) sv a' c' (k + l.length) (m ++ l) := by
  obtain ⟨a', c', w', hr, hn, hb⟩ := Go.Proofs.Ythbppjkafbhdaaa.growL h.row hi h.win.size (by rw [h.len]; exact hk) c
  rw [List.length_append, h.len] at hr hn
  have hl := h.lt
  have hx : Box w' g sv (.slice ad k cd) 26 := by
    unfold Box; rw [hb.block g hl]; exact h.box
  refine ⟨a', c', w', hr, hx, ?_, ?_, ?_, hl, by simp [h.len]⟩
  · have := heap_setCell_same w' g 1 _ _ (.slice a' (k + l.length) c') hx
    unfold Box; simpa using this
  · exact hn.but ((But.refl g w').setCell 1 (.slice a' (k + l.length) c')) (by omega)
  · have s1 := win_setCell w' g 1 (.slice a' (k + l.length) c')
    have hz := h.win.size
    have hb2 := hb.size
    refine ⟨s1.os.trans (hb.os.trans h.win.os), s1.tape.trans (hb.tape.trans h.win.tape), s1.output.trans (hb.output.trans h.win.output), Nat.le_trans hz (Nat.le_trans hb2 s1.size), fun o h1 h2 => ?_⟩
    exact (s1.block o (by omega) h2).trans ((hb.block o h1).trans (h.win.block o h1 h2))
/-- One number more. -/
theorem OutB.grow1 {g cd k : Nat} {W0 wr : World} {sv : Value} {ad : Option Addr} {m : List Int} (h : OutB g W0 wr sv ad cd k m) (hk : k < 1048576) (x : Int) :
    ∃ a' c' w', (Builtin.append_ #[24, 24] 24 #[.slice ad k cd, .slice (some ⟨wr.heap.size, 0, none⟩) 1 1]).run Try.prog (wr.alloc (.cells #[.int .i64 x] 3)) = .ok (.slice a' (k + 1) c') w' ∧ Box w' g sv (.slice ad k cd) 26 ∧ OutB g W0 (w'.setCell ⟨g, 1, none⟩ (.slice a' (k + 1) c')) sv a' c' (k + 1) (m ++ [x]) := by
  obtain ⟨a', c', w', hr, hn, hb⟩ := Go.Proofs.Ythbppjkafbhdaaa.grow1 x h.row h.win.size (by rw [h.len]; exact hk)
  rw [h.len] at hr hn
  have hl := h.lt
  have hx : Box w' g sv (.slice ad k cd) 26 := by
    unfold Box; rw [hb.block g hl]; exact h.box
  refine ⟨a', c', w', hr, hx, ?_, ?_, ?_, hl, by simp [h.len]⟩
  · have := heap_setCell_same w' g 1 _ _ (.slice a' (k + 1) c') hx
    unfold Box; simpa using this
  · exact hn.but ((But.refl g w').setCell 1 (.slice a' (k + 1) c')) (by omega)
  · have s1 := win_setCell w' g 1 (.slice a' (k + 1) c')
    have hz := h.win.size
    have hb2 := hb.size
    refine ⟨s1.os.trans (hb.os.trans h.win.os), s1.tape.trans (hb.tape.trans h.win.tape), s1.output.trans (hb.output.trans h.win.output), Nat.le_trans hz (Nat.le_trans hb2 s1.size), fun o h1 h2 => ?_⟩
    exact (s1.block o (by omega) h2).trans ((hb.block o h1).trans (h.win.block o h1 h2))
/-- The array that was made: its shape lies elsewhere. -/
theorem OutB.arr {g cd k B E : Nat} {W0 wr : World} {a : Option Addr} {c : Nat} {ad : Option Addr} {m S : List Int} (h : OutB g W0 wr (.slice a S.length c) ad cd k m) (hS : Piece B E W0 (.slice a S.length c) S) (hE : E ≤ W0.heap.size) (hB : B ≤ W0.heap.size) (hg : E ≤ g ∨ g + 1 ≤ B) : Arr B wr.heap.size wr (.agg #[.slice a S.length c, .slice ad k cd]) S m := by
  have p1 : Piece B E wr (.slice a S.length c) S := hS.win h.win hg
  have p2 := h.row.piece
  have hz := h.win.size
  exact ⟨_, _, rfl, p1.mono (Nat.le_refl _) (by omega), p2.mono hB (Nat.le_refl _), p1.apart p2 (.inl hE)⟩
/-- Growing by a list: what else stands, and where the list lies then. -/
theorem growX {B : Nat} {w : World} {v : Value} {l m : List Int} {a : Option Addr} (h : NewInts B w v l) (hm : Ints w a m) (hB : B ≤ w.heap.size) (hl : l.length + m.length ≤ 2097152) (c : Nat) :
    ∃ a' c' w', (Builtin.append_ #[24, 24] 24 #[v, .slice a m.length c]).run Try.prog w = .ok (.slice a' (l ++ m).length c') w' ∧ NewInts B w' (.slice a' (l ++ m).length c') (l ++ m) ∧ Below B w w' ∧ (∀ o, o < w.heap.size → v.ownBlock ≠ some o → w'.heap[o]? = w.heap[o]?) ∧ ((Value.slice a' (l ++ m).length c').ownBlock = v.ownBlock ∨ (Value.slice a' (l ++ m).length c').ownBlock = some w.heap.size) := by
  obtain ⟨i, hq, z1, z2, z3⟩ : ∃ i, Try.prog.info? 3 = some i ∧ i.zero = some (.int .i64 0) ∧ i.size = 1 ∧ i.bytes = 8 := by
    have hi := info_int
    cases hq : Try.prog.info? 3 with
    | none => rw [hq] at hi; cases hi
    | some i => rw [hq] at hi; simp at hi; exact ⟨i, rfl, hi.1, hi.2.1, hi.2.2⟩
  cases a with
  | none =>
    obtain rfl : m = [] := by
      rcases hm with h | ⟨b, off, e, _⟩
      · exact h
      · cases e
    obtain ⟨base, cap, rfl, hle⟩ : ∃ base cap, v = .slice base l.length cap ∧ l.length ≤ cap := by
      rcases h.2 with ⟨e, h0⟩ | ⟨g, cap, cur, e, _, _, hle, _⟩
      · exact ⟨none, 0, by rw [e, h0], by omega⟩
      · exact ⟨_, cap, e, hle⟩
    refine ⟨base, cap, w, ?_, by simpa using h, Below.refl _ _, fun _ _ _ => rfl, .inl (by simp)⟩
    have := run_append_nothing (P := Try.prog) w 24 24 24 3 i Try.underlying24 hq base l.length cap hle (.slice none 0 c) (by rw [z2]; exact Src.ofNil w Try.underlying24 c)
    simpa using this
  | some ad =>
    have hn : ∀ (j : Nat) (u : Value), (m.map (Value.int .i64))[j]? = some u → w.cell? (ad.add j) = some u := by
      rcases hm with rfl | ⟨b, off, e, _, hc⟩
      · intro j u hu; simp at hu
      · cases e; exact ints_news hc
    obtain ⟨v', w', hr, h2, h3, _, h5⟩ := run_append_own_at (P := Try.prog) w B 24 24 3 i (.int .i64 0) 1 8 Try.underlying24 hq z1 z2 z3 rfl (by decide) v l.length (l.map (Value.int .i64)) h ad m.length c (m.map (Value.int .i64)) (by simp) hn (by intro u hu; obtain ⟨x, _, rfl⟩ := List.mem_map.1 hu; rfl) (by unfold maxLen; omega) (by omega) hB
    have h2' : NewInts B w' v' (l ++ m) := by
      show World.ownsRow _ _ _ _ _ _ _
      simpa using h2
    obtain ⟨a', c', rfl, _⟩ := h2'.ints
    exact ⟨a', c', w', hr, h2', grown_below h3 h.row hB, fun o ho hne => h3.block o ho (fun e => hne e.symm), h5⟩
/-- A list of numbers does not lie in a box of two lists. -/
theorem Piece.notBox {B C g : Nat} {w : World} {v : Value} {l : List Int} {a b : Option Addr} {n c n' c' : Nat} {T : TypeId} (h : Piece B C w v l) (hb : Box w g (.slice a n c) (.slice b n' c') T) : NotAt g v := by
  obtain ⟨a0, c0, rfl, hle, h⟩ := h
  intro off m cc e
  cases l with
  | nil => cases e; rfl
  | cons x l =>
    rcases h with h | ⟨o, of, cur, t, rfl, _, _, hg, hr⟩
    · cases h
    · exfalso
      cases e
      unfold Box at hb
      rw [hb] at hg
      cases hg
      have := hr 0 (by simp)
      rw [Nat.add_zero] at this
      match off, this with
      | 0, h => simp at h
      | 1, h => simp at h
      | k + 2, h => simp at h
theorem Piece.winB {B C g : Nat} {w w' : World} {v : Value} {l : List Int} (h : Piece B C w v l) (hw : Win g (g + 1) w w') (hn : NotAt g v) (hC : C ≤ w.heap.size) : Piece B C w' v l := by
  obtain ⟨a, c, rfl, hle, h⟩ := h
  refine ⟨a, c, rfl, hle, ?_⟩
  rcases h with rfl | ⟨o, off, cur, t, rfl, h1, h2, hg, r⟩
  · exact .inl rfl
  · by_cases e : o = g
    · subst e
      have := hn _ _ _ rfl
      exact .inl (List.eq_nil_of_length_eq_zero this)
    · exact .inr ⟨o, off, cur, t, rfl, h1, h2, by rw [hw.block o (by omega) (by omega)]; exact hg, r⟩
/-- The array that was made, its shape anywhere but in its own box. -/
theorem OutB.arrN {g cd k B E : Nat} {W0 wr : World} {a : Option Addr} {c : Nat} {ad : Option Addr} {m S : List Int} (h : OutB g W0 wr (.slice a S.length c) ad cd k m) (hS : Piece B E W0 (.slice a S.length c) S) (hE : E ≤ W0.heap.size) (hB : B ≤ W0.heap.size) (hn : NotAt g (.slice a S.length c)) : Arr B wr.heap.size wr (.agg #[.slice a S.length c, .slice ad k cd]) S m := by
  have p1 : Piece B E wr (.slice a S.length c) S := hS.winB h.win hn hE
  have p2 := h.row.piece
  have hz := h.win.size
  exact ⟨_, _, rfl, p1.mono (Nat.le_refl _) (by omega), p2.mono hB (Nat.le_refl _), p1.apart p2 (.inl hE)⟩
/-- A list of numbers of one's own does not lie in a box of an array. -/
theorem newInts_notBox {B g : Nat} {w : World} {v x y : Value} {l : List Int} (h : NewInts B w v l) (hb : Box w g x y 26) : v.ownBlock ≠ some g := by
  rcases h.2 with ⟨rfl, _⟩ | ⟨o, cap, cur, rfl, _, hg, _⟩
  · simp [Value.ownBlock]
  · intro e
    simp only [Value.ownBlock, Option.some.injEq] at e
    subst e
    unfold Box at hb
    rw [hb] at hg
    injection hg with hg
    injection hg with _ h2 _
    exact absurd h2 (by decide)
theorem notAt_own {g : Nat} {v : Value} (h : v.ownBlock ≠ some g) : NotAt g v := by
  intro off n c e
  subst e
  exact absurd rfl h
theorem newInts_setBox {B g i : Nat} {w : World} {v x y u : Value} {l : List Int} (h : NewInts B w v l) (hb : Box w g x y 26) : NewInts B (w.setCell ⟨g, i, none⟩ u) v l := by
  have hn := newInts_notBox h hb
  obtain ⟨h1, h2⟩ := h
  refine ⟨h1, ?_⟩
  rcases h2 with h2 | ⟨o, cap, cur, rfl, hB, hg, r⟩
  · exact .inl h2
  · refine .inr ⟨o, cap, cur, rfl, hB, ?_, r⟩
    rw [heap_setCell_other _ _ _ _ (by show o ≠ g; intro e; subst e; exact hn rfl)]
    exact hg
/-- Growing by a list: boxes of arrays stand. -/
theorem growK {B : Nat} {w : World} {v : Value} {l m : List Int} {a : Option Addr} (h : NewInts B w v l) (hm : Ints w a m) (hB : B ≤ w.heap.size) (hl : l.length + m.length ≤ 2097152) (c : Nat) :
    ∃ a' c' w', (Builtin.append_ #[24, 24] 24 #[v, .slice a m.length c]).run Try.prog w = .ok (.slice a' (l ++ m).length c') w' ∧ NewInts B w' (.slice a' (l ++ m).length c') (l ++ m) ∧ Below B w w' ∧ (∀ g x y, Box w g x y 26 → Box w' g x y 26) := by
  obtain ⟨a', c', w', r, n, b, k, _⟩ := growX h hm hB hl c
  refine ⟨a', c', w', r, n, b, fun g x y hb => ?_⟩
  unfold Box
  rw [k g hb.lt (newInts_notBox h hb)]
  exact hb
theorem shape_put {w V : World} {q : Nat} {v x0 y0 : Value} {l : List Int} (hb : Below w.heap.size w V) (hq : w.heap.size ≤ q) (bq : Box V q x0 y0 26) (n : NewInts w.heap.size V v l) :
    Box ((V.setCell ⟨q, 0, none⟩ v).setCell ⟨q, 1, none⟩ (.slice none 0 0)) q v (.slice none 0 0) 26 ∧ NewInts w.heap.size ((V.setCell ⟨q, 0, none⟩ v).setCell ⟨q, 1, none⟩ (.slice none 0 0)) v l ∧ Below w.heap.size w ((V.setCell ⟨q, 0, none⟩ v).setCell ⟨q, 1, none⟩ (.slice none 0 0)) := by
  have b1 : Box (V.setCell ⟨q, 0, none⟩ v) q v y0 26 := by
    have := heap_setCell_same V q 0 _ _ v bq
    unfold Box; simpa using this
  exact ⟨arr_stored bq, newInts_setBox (newInts_setBox n bq) b1, below_setCell (below_setCell hb hq _ _) hq _ _⟩
theorem shape_new {w V : World} {v : Value} {l : List Int} (hb : Below w.heap.size w V) (n : NewInts w.heap.size V v l) :
    Box (V.alloc (.cells #[v, .slice none 0 0] 26)) V.heap.size v (.slice none 0 0) 26 ∧ NewInts w.heap.size (V.alloc (.cells #[v, .slice none 0 0] 26)) v l ∧ Below w.heap.size w (V.alloc (.cells #[v, .slice none 0 0] 26)) :=
  ⟨box_new V _ _ _, n.keep (bAlloc (Below.refl _ _) _), bAlloc hb _⟩
/-- Two lists one behind the other, in whatever order the box of the answer is laid among the steps: the four ways. -/
theorem shape_ways {w : World} {a b : Option Addr} {l m : List Int} (ha : Ints w a l) (hb : Ints w b m) (hl : l.length + m.length ≤ 2097152) (c c' : Nat) (E N : Obj) (hE : E = .cells #[] 3) (hN : N = .cells #[.slice none 0 0, .slice none 0 0] 26) :
    ∃ aA cA wA aB cB wB aC cC wC aD cD wD aE cE wE aF cF wF aG cG wG,
      ((Builtin.append_ #[24, 24] 24 #[.slice (some ⟨w.heap.size, 0, none⟩) 0 0, .slice a l.length c]).run Try.prog (World.drew (w.alloc E)) = .ok (.slice aA l.length cA) wA ∧
       (Builtin.append_ #[24, 24] 24 #[.slice (some ⟨w.heap.size + 1, 0, none⟩) 0 0, .slice a l.length c]).run Try.prog (World.drew ((w.alloc N).alloc E)) = .ok (.slice aB l.length cB) wB ∧
       (Builtin.append_ #[24, 24] 24 #[.slice (some ⟨w.heap.size, 0, none⟩) 0 0, .slice a l.length c]).run Try.prog (World.drew ((w.alloc E).alloc N)) = .ok (.slice aC l.length cC) wC ∧
       (Builtin.append_ #[24, 24] 24 #[.slice aA l.length cA, .slice b m.length c']).run Try.prog wA = .ok (.slice aD (l.length + m.length) cD) wD ∧
       (Builtin.append_ #[24, 24] 24 #[.slice aA l.length cA, .slice b m.length c']).run Try.prog (wA.alloc N) = .ok (.slice aE (l.length + m.length) cE) wE ∧
       (Builtin.append_ #[24, 24] 24 #[.slice aB l.length cB, .slice b m.length c']).run Try.prog wB = .ok (.slice aF (l.length + m.length) cF) wF ∧
       (Builtin.append_ #[24, 24] 24 #[.slice aC l.length cC, .slice b m.length c']).run Try.prog wC = .ok (.slice aG (l.length + m.length) cG) wG) ∧
      (Below w.heap.size w wA ∧ Below w.heap.size w wB ∧ Below w.heap.size w wC ∧ Below w.heap.size w wD ∧ Below w.heap.size w wE ∧ Below w.heap.size w wF ∧ Below w.heap.size w wG) ∧
      (NewInts w.heap.size wD (.slice aD (l ++ m).length cD) (l ++ m) ∧ NewInts w.heap.size wE (.slice aE (l ++ m).length cE) (l ++ m) ∧ NewInts w.heap.size wF (.slice aF (l ++ m).length cF) (l ++ m) ∧ NewInts w.heap.size wG (.slice aG (l ++ m).length cG) (l ++ m)) ∧
      (Box wE wA.heap.size (.slice none 0 0) (.slice none 0 0) 26 ∧ Box wB w.heap.size (.slice none 0 0) (.slice none 0 0) 26 ∧ Box wF w.heap.size (.slice none 0 0) (.slice none 0 0) 26 ∧ Box wC (w.heap.size + 1) (.slice none 0 0) (.slice none 0 0) 26 ∧ Box wG (w.heap.size + 1) (.slice none 0 0) (.slice none 0 0) 26) := by
  have s1 : (w.alloc N).heap.size = w.heap.size + 1 := by simp
  have BA : Below w.heap.size w (World.drew (w.alloc E)) := (bAlloc (Below.refl _ _) _).drew
  have BB : Below w.heap.size w (World.drew ((w.alloc N).alloc E)) := (bAlloc (bAlloc (Below.refl _ _) _) _).drew
  have BC : Below w.heap.size w (World.drew ((w.alloc E).alloc N)) := (bAlloc (bAlloc (Below.refl _ _) _) _).drew
  have NA0 : NewInts w.heap.size (w.alloc E) (.slice (some ⟨w.heap.size, 0, none⟩) 0 0) [] := by rw [hE]; exact newInts_alloc w [] (Nat.le_refl _) (by simp)
  have NA : NewInts w.heap.size (World.drew (w.alloc E)) (.slice (some ⟨w.heap.size, 0, none⟩) 0 0) [] := NA0.keep ((Below.refl _ _).drew)
  have NB : NewInts w.heap.size (World.drew ((w.alloc N).alloc E)) (.slice (some ⟨w.heap.size + 1, 0, none⟩) 0 0) [] := by
    have q : NewInts w.heap.size ((w.alloc N).alloc E) (.slice (some ⟨(w.alloc N).heap.size, 0, none⟩) 0 0) [] := by rw [hE]; exact newInts_alloc (w.alloc N) [] (by omega) (by simp)
    rw [s1] at q
    exact q.keep ((Below.refl _ _).drew)
  have NC : NewInts w.heap.size (World.drew ((w.alloc E).alloc N)) (.slice (some ⟨w.heap.size, 0, none⟩) 0 0) [] := NA0.keep ((bAlloc (Below.refl _ _) N).drew)
  obtain ⟨aA, cA, wA, rA, nA, bA, kA⟩ := growK NA (ha.keep BA) BA.size (by simp; omega) c
  obtain ⟨aB, cB, wB, rB, nB, bB, kB⟩ := growK NB (ha.keep BB) BB.size (by simp; omega) c
  obtain ⟨aC, cC, wC, rC, nC, bC, kC⟩ := growK NC (ha.keep BC) BC.size (by simp; omega) c
  rw [List.nil_append] at rA rB rC nA nB nC
  have bA := BA.trans bA
  have bB := BB.trans bB
  have bC := BC.trans bC
  have bAN : Below w.heap.size w (wA.alloc N) := bAlloc bA _
  obtain ⟨aD, cD, wD, rD, nD, bD, kD⟩ := growK nA (hb.keep bA) bA.size hl c'
  obtain ⟨aE, cE, wE, rE, nE, bE, kE⟩ := growK (nA.keep (bAlloc (Below.refl _ _) N)) (hb.keep bAN) bAN.size hl c'
  obtain ⟨aF, cF, wF, rF, nF, bF, kF⟩ := growK nB (hb.keep bB) bB.size hl c'
  obtain ⟨aG, cG, wG, rG, nG, bG, kG⟩ := growK nC (hb.keep bC) bC.size hl c'
  have xB : Box (World.drew ((w.alloc N).alloc E)) w.heap.size (.slice none 0 0) (.slice none 0 0) 26 := by rw [hN]; exact heap_alloc2_old w _ _
  have xC : Box (World.drew ((w.alloc E).alloc N)) (w.heap.size + 1) (.slice none 0 0) (.slice none 0 0) 26 := by rw [hN]; exact heap_alloc2_new w _ _
  have xE : Box (wA.alloc N) wA.heap.size (.slice none 0 0) (.slice none 0 0) 26 := by rw [hN]; exact box_new wA _ _ _
  have eL : (l ++ m).length = l.length + m.length := List.length_append
  refine ⟨aA, cA, wA, aB, cB, wB, aC, cC, wC, aD, cD, wD, aE, cE, wE, aF, cF, wF, aG, cG, wG, ⟨rA, rB, rC, ?_, ?_, ?_, ?_⟩, ⟨bA, bB, bC, bA.trans bD, bAN.trans bE, bB.trans bF, bC.trans bG⟩, ⟨nD, nE, nF, nG⟩, ⟨kE _ _ _ xE, kB _ _ _ xB, kF _ _ _ (kB _ _ _ xB), kC _ _ _ xC, kG _ _ _ (kC _ _ _ xC)⟩⟩
  · rw [← eL]; exact rD
  · rw [← eL]; exact rE
  · rw [← eL]; exact rF
  · rw [← eL]; exact rG
end Go.Proofs.Ythbppjkafbhdaaa
