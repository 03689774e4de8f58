/-
  The vectors of an inner product, and two lists of arrays put into blocks of one's own.
-/
import Derived.Test.YtbmkfmppcojcgaaImplInn1
import Derived.Test.YtbmkfmppcojcgaaInnerQ
import Derived.Test.YtbmkfmppcojcgaaTurnF
namespace Go.Proofs.Ytbmkfmppcojcgaa
open Go.RowKit Go.Shelf
set_option linter.unusedVariables false
set_option linter.unusedSimpArgs false
theorem neu_right (f : Int) : ok (neu f).1 = true := by
  unfold neu
  repeat' split
  all_goals decide
theorem vecs_row {s d t e : List Int} {nR n nC : Nat} (h : InnerD s d t e nR n nC) (ho : arrOk s d = true) :
    (vecsF s d).length = 2 * nR ∧ ∀ i, i < nR → (vecsF s d).getD (2 * i) [] = [(n : Int)] ∧ (vecsF s d).getD (2 * i + 1) [] = rowV d n i ∧ arrOk [(n : Int)] (rowV d n i) = true := by
  obtain ⟨h1, _, hd, _, _, hn, _⟩ := h
  rcases h1 with ⟨rfl, rfl⟩ | rfl
  · refine ⟨rfl, fun i hi => ?_⟩
    obtain rfl : i = 0 := by omega
    have e : rowV d n 0 = d := by unfold rowV; rw [Nat.zero_mul, List.drop_zero]; exact List.take_of_length_le (by omega)
    rw [e]
    exact ⟨rfl, rfl, ho⟩
  · have e0 : vecsF [(nR : Int), (n : Int)] d = flatR [(n : Int)] (rowsD [(nR : Int), (n : Int)] d) := rfl
    have e1 : rowsN [(nR : Int), (n : Int)] = nR := rfl
    have e2 : rowN [(nR : Int), (n : Int)] = n := by show (sizeV [(n : Int)]).toNat = n; rw [size_p1 n hn]; rfl
    rw [e0]
    refine ⟨by rw [flatR_len, rowsD_len, e1], fun i hi => ?_⟩
    have q := flatR_at [(n : Int)] (rowsD [(nR : Int), (n : Int)] d) (i := i) (by rw [rowsD_len, e1]; exact hi)
    have q2 := rowsD_at [(nR : Int), (n : Int)] d (i := i) (by rw [e1]; exact hi)
    have q3 : rowAt [(nR : Int), (n : Int)] d i = rowV d n i := by unfold rowAt rowV; rw [e2]
    have q4 := rowsD_ok ho (by simp) i (by rw [rowsD_len, e1]; exact hi)
    rw [q2, q3] at q4
    rw [q2, q3] at q
    exact ⟨q.1, q.2, q4⟩
theorem vecs_col {s d t e : List Int} {nR n nC : Nat} (h : InnerD s d t e nR n nC) (ho : arrOk t e = true) :
    (vecsF t.reverse (flipD t e)).length = 2 * nC ∧ ∀ j, j < nC → (vecsF t.reverse (flipD t e)).getD (2 * j) [] = [(n : Int)] ∧ (vecsF t.reverse (flipD t e)).getD (2 * j + 1) [] = colV e n nC j ∧ arrOk [(n : Int)] (colV e n nC j) = true := by
  have he3 := arrOk_len ho
  obtain ⟨_, h2, _, he, _, hn, hc⟩ := h
  rcases h2 with ⟨rfl, rfl⟩ | rfl
  · refine ⟨rfl, fun i hi => ?_⟩
    obtain rfl : i = 0 := by omega
    obtain ⟨q1, q2⟩ := flip_vec (e := e) hn (by omega)
    refine ⟨rfl, ?_, by rw [q2]; exact ho⟩
    show flipD [(n : Int)] e = _
    rw [q1, q2]
  · have e0 : vecsF [(n : Int), (nC : Int)].reverse (flipD [(n : Int), (nC : Int)] e) = flatR [(n : Int)] (rowsD [(nC : Int), (n : Int)] (flipD [(n : Int), (nC : Int)] e)) := rfl
    have e1 : rowsN [(nC : Int), (n : Int)] = nC := rfl
    have e2 : rowN [(nC : Int), (n : Int)] = n := by show (sizeV [(n : Int)]).toNat = n; rw [size_p1 n hn]; rfl
    rw [e0]
    refine ⟨by rw [flatR_len, rowsD_len, e1], fun i hi => ?_⟩
    have q := flatR_at [(n : Int)] (rowsD [(nC : Int), (n : Int)] (flipD [(n : Int), (nC : Int)] e)) (i := i) (by rw [rowsD_len, e1]; exact hi)
    have q2 := rowsD_at [(nC : Int), (n : Int)] (flipD [(n : Int), (nC : Int)] e) (i := i) (by rw [e1]; exact hi)
    have q3 : rowAt [(nC : Int), (n : Int)] (flipD [(n : Int), (nC : Int)] e) i = colV e n nC i := by unfold rowAt; rw [e2]; exact flip_col hn hc he (by omega) hi
    have q4 := rowsD_ok (s := [(nC : Int), (n : Int)]) (flip_ok ho).1 (by simp) i (by rw [rowsD_len, e1]; exact hi)
    rw [q2, q3] at q4
    rw [q2, q3] at q
    exact ⟨q.1, q.2, q4⟩
/-- What strung makes of the numbers. -/
theorem inner_strung {N : Nat} {c : Nat → Int × Int} (SH : List Int) : mkR (firstC (fun k => (c k).2) N) SH ((List.range N).flatMap (fun k => if (c k).2 = 0 then [(c k).1] else [])) = mkR (firstC (fun k => (c k).2) N) SH ((List.range N).map (fun k => (c k).1)) := by
  by_cases h : firstC (fun k => (c k).2) N = 0
  · rw [flat_cells h]
  · rw [mkR_bad h, mkR_bad h]
/-- A block with a list of arrays in it. -/
def One (W : World) (q : Nat) (x : Value) : Prop := W.heap[q]? = some (.cells #[x] 60 (0, 0))
namespace One
theorem keep {W W' : World} {q : Nat} {x : Value} (h : One W q x) (hb : Below W.heap.size W W') : One W' q x := by
  unfold One at *; rw [hb.block q (lt_of_heapA h)]; exact h
theorem c0 {W : World} {q : Nat} {x : Value} (h : One W q x) : W.cell? ⟨q, 0, none⟩ = some x := cell_at h rfl
theorem free {W : World} {q : Nat} {x : Value} (h : One W q x) : W.frozen? ⟨q, 0, none⟩ = false := free_at h 0
theorem lt {W : World} {q : Nat} {x : Value} (h : One W q x) : q < W.heap.size := lt_of_heapA h
theorem set {W : World} {q : Nat} {x : Value} (h : One W q x) (y : Value) : One (W.setCell ⟨q, 0, none⟩ y) q y := by
  have h1 := heap_setCell_same W q 0 _ _ y h
  simpa [One] using h1
theorem other {W : World} {q p : Nat} {x : Value} (h : One W q x) (hne : q ≠ p) (y : Value) : One (W.setCell ⟨p, 0, none⟩ y) q x := by
  unfold One; rw [heap_setCell_other _ _ _ _ (by show q ≠ p; exact hne)]; exact h
theorem new (W : World) (x : Value) : One (W.alloc (.cells #[x] 60)) W.heap.size x := heap_alloc_new W _
end One
theorem one_new2 (W : World) (O : Obj) (x : Value) : One ((W.alloc O).alloc (.cells #[x] 60)) (W.heap.size + 1) x := by
  have h := One.new (W.alloc O) x
  rw [World.size_alloc] at h
  exact h
theorem one_old2 (W : World) (O : Obj) (x : Value) : One ((W.alloc (.cells #[x] 60)).alloc O) W.heap.size x := (One.new W x).keep (bAlloc (Below.refl _ _) _)
theorem cell_other {W : World} {q : Nat} {p : Addr} {x : Value} (h : p.block ≠ q) : (W.setCell ⟨q, 0, none⟩ x).cell? p = W.cell? p := by
  simp only [World.cell?]
  rw [heap_setCell_other _ _ _ _ (by show p.block ≠ q; exact h)]
theorem one_cell {W : World} {q o : Nat} {x v : Value} (h : One W q x) (hc : W.cell? ⟨q, o, none⟩ = some v) : o = 0 ∧ v = x := by
  have h' : W.heap[q]? = some (.cells #[x] 60 (0, 0)) := h
  simp only [World.cell?, h'] at hc
  rcases o with _ | o
  · exact ⟨rfl, by simpa using hc.symm⟩
  · simp at hc
theorem ints_set {W : World} {q : Nat} {x y : Value} {a : Option Addr} {l : List Int} (hq : One W q x) (hx : ∃ a n c, x = .slice a n c) (h : Ints W a l) : Ints (W.setCell ⟨q, 0, none⟩ y) a l := by
  rcases h with h | ⟨b, off, e, hB, hc⟩
  · exact .inl h
  · by_cases hl : l.length = 0
    · exact .inl (List.eq_nil_of_length_eq_zero hl)
    refine .inr ⟨b, off, e, by rw [size_setCell]; exact hB, fun k hk => ?_⟩
    have hne : b ≠ q := fun hbq => by
      have h0 := hc k hk
      rw [hbq] at h0
      obtain ⟨a, n, c, rfl⟩ := hx
      have := (one_cell hq h0).2
      cases this
    rw [cell_other (by exact hne)]
    exact hc k hk
theorem arrs_set {W : World} {q : Nat} {x y v : Value} {F : List (List Int)} (hq : One W q x) (hx : ∃ a n c, x = .slice a n c) (h : ArrsI W v F) : ArrsI (W.setCell ⟨q, 0, none⟩ y) v F := by
  obtain ⟨a, n, c, rfl, hF, h⟩ := h
  refine ⟨a, n, c, rfl, hF, ?_⟩
  rcases h with h | ⟨o, off, xs, e, ho, hx', hj⟩
  · exact .inl h
  · by_cases hn : n = 0
    · exact .inl hn
    have hne : o ≠ q := fun hoq => by
      have h1 := (hj 1 (by omega)).1
      rw [hoq] at h1
      have := (one_cell hq h1).1
      omega
    refine .inr ⟨o, off, xs, e, by rw [size_setCell]; exact ho, hx', fun j h => ⟨?_, ?_⟩⟩
    · rw [cell_other (by exact hne)]; exact (hj j h).1
    · obtain ⟨a2, c2, e2, hle, h2⟩ := (hj j h).2
      exact ⟨a2, c2, e2, hle, ints_set hq hx h2⟩
/-- Two lists of arrays, each in a block of its own. -/
def VecsAt (W0 W : World) (g7 g8 : Nat) (x y : Value) (FX FY : List (List Int)) : Prop :=
  One W g7 x ∧ One W g8 y ∧ ArrsI W x FX ∧ ArrsI W y FY ∧ Below W0.heap.size W0 W
theorem put_two {w V : World} {q p : Nat} {x y x0 y0 : Value} {FX FY : List (List Int)} (hb : Below w.heap.size w V) (hq : w.heap.size ≤ q) (hp : w.heap.size ≤ p) (hne : q ≠ p)
    (bq : One V q x0) (bp : One V p y0) (e0 : ∃ a n c, x0 = .slice a n c) (e1 : ∃ a n c, y0 = .slice a n c) (ax : ArrsI V x FX) (ay : ArrsI V y FY) : VecsAt w ((V.setCell ⟨q, 0, none⟩ x).setCell ⟨p, 0, none⟩ y) q p x y FX FY :=
  ⟨(bq.set x).other hne y, (bp.other (fun h => hne h.symm) x).set y, arrs_set (bp.other (fun h => hne h.symm) x) e1 (arrs_set bq e0 ax), arrs_set (bp.other (fun h => hne h.symm) x) e1 (arrs_set bq e0 ay), below_setCell (below_setCell hb hq _ _) hp _ _⟩
theorem VecsAt.swap {w V : World} {q p : Nat} {x y : Value} {FX FY : List (List Int)} (h : VecsAt w V q p x y FX FY) : VecsAt w V p q y x FY FX := ⟨h.2.1, h.1, h.2.2.2.1, h.2.2.1, h.2.2.2.2⟩
theorem put_lay {w V : World} {q : Nat} {x y x0 : Value} {FX FY : List (List Int)} (hb : Below w.heap.size w V) (hq : w.heap.size ≤ q)
    (bq : One V q x0) (e0 : ∃ a n c, x0 = .slice a n c) (ax : ArrsI V x FX) (ay : ArrsI V y FY) : VecsAt w ((V.setCell ⟨q, 0, none⟩ x).alloc (.cells #[y] 60)) q V.heap.size x y FX FY := by
  have hn := One.new (V.setCell ⟨q, 0, none⟩ x) y
  rw [size_setCell] at hn
  exact ⟨(bq.set x).keep (bAlloc (Below.refl _ _) _), hn, (arrs_set bq e0 ax).keep (bAlloc (Below.refl _ _) _), (arrs_set bq e0 ay).keep (bAlloc (Below.refl _ _) _), bAlloc (below_setCell hb hq _ _) _⟩
theorem lay_two {w V : World} {x y : Value} {FX FY : List (List Int)} (hb : Below w.heap.size w V) (ax : ArrsI V x FX) (ay : ArrsI V y FY) : VecsAt w ((V.alloc (.cells #[x] 60)).alloc (.cells #[y] 60)) V.heap.size (V.heap.size + 1) x y FX FY := by
  have hn := One.new (V.alloc (.cells #[x] 60)) y
  rw [World.size_alloc] at hn
  exact ⟨(One.new V x).keep (bAlloc (Below.refl _ _) _), hn, (ax.keep (bAlloc (Below.refl _ _) _)).keep (bAlloc (Below.refl _ _) _), (ay.keep (bAlloc (Below.refl _ _) _)).keep (bAlloc (Below.refl _ _) _), bAlloc (bAlloc hb _) _⟩
end Go.Proofs.Ytbmkfmppcojcgaa
