/-
  Several texts, one behind the other: TurnF, ImplInnP, InnF.
-/
import Derived.Test.YtnkacfgbkfkhdaaGreatY34
import Derived.Test.YtnkacfgbkfkhdaaGreatY13
import Derived.Test.YtnkacfgbkfkhdaaGreatY14
import Derived.Test.YtnkacfgbkfkhdaaGreatY33
import Derived.Deep.LoopGhost
import Derived.Deep.Cut
import Derived.Deep.CutRange
import Derived.BigQuiet
import Derived.Deep.RegionHeld3
namespace Go.Proofs.YtnkacfgbkfkhdaaGreat
set_option linter.unusedVariables false
theorem rows_join (d : List Int) (N : Nat) : ∀ n, (List.range n).flatMap (fun i => (d.drop (i * N)).take N) = d.take (n * N) := by
  intro n
  induction n with
  | zero => simp
  | succ n ih =>
    rw [List.range_succ, List.flatMap_append, ih, Nat.add_mul, Nat.one_mul, List.take_add]
    simp
theorem all_rows {s d : List Int} (ho : arrOk s d = true) (hs : s ≠ []) : (List.range (rowsN s)).flatMap (fun i => rowAt s d i) = d := by
  have h := rows_join d (rowN s) (rowsN s)
  rw [rows5 ho hs, List.take_length] at h
  exact h
/-- Rows chosen by a rule: what comes is right, and its rows are those. -/
theorem chosen_rows {s d : List Int} (ho : arrOk s d = true) (hs : s ≠ []) (σ : Nat → Nat) (hσ : ∀ i, i < rowsN s → σ i < rowsN s) :
    arrOk s ((List.range (rowsN s)).flatMap (fun i => rowAt s d (σ i))) = true ∧ ∀ k, k < rowsN s → rowAt s ((List.range (rowsN s)).flatMap (fun i => rowAt s d (σ i))) k = rowAt s d (σ k) := by
  have hl : ∀ i, i < rowsN s → (rowAt s d (σ i)).length = rowN s := fun i hi => rowAt_len ho hs (hσ i hi)
  constructor
  · have hz := arrOk_size ho
    have hd : d.all ok = true := by unfold arrOk at ho; rw [Bool.and_eq_true] at ho; exact ho.2
    have hlen : ((List.range (rowsN s)).flatMap (fun i => rowAt s d (σ i))).length = d.length := by
      by_cases h0 : rowsN s = 0
      · have := rows5 ho hs
        rw [h0] at this ⊢
        simp at this ⊢
        omega
      · rw [← rows5 ho hs]; exact (flat_at 0 (rowsN s) (by omega) hl).2
    unfold arrOk
    rw [Bool.and_eq_true, hlen]
    refine ⟨by simpa using hz, ?_⟩
    rw [List.all_eq_true] at hd ⊢
    intro y hy
    rw [List.mem_flatMap] at hy
    obtain ⟨i, _, hy⟩ := hy
    exact hd y (List.mem_of_mem_drop (List.mem_of_mem_take hy))
  · intro k hk
    exact (flat_at k (rowsN s) hk hl).1
theorem flat_ext {n : Nat} {f g : Nat → List Int} (h : ∀ i, i < n → f i = g i) : (List.range n).flatMap f = (List.range n).flatMap g := by
  induction n with
  | zero => rfl
  | succ n ih => rw [List.range_succ, List.flatMap_append, List.flatMap_append, ih (fun i hi => h i (by omega))]; simp [h n (by omega)]
theorem turn_ok {s d : List Int} (ho : arrOk s d = true) : arrOk s (turnD s d) = true ∧ turnD s (turnD s d) = d := by
  by_cases hs : s = []
  · unfold turnD; rw [if_pos hs, if_pos hs]; exact ⟨ho, rfl⟩
  · have e : ∀ x, turnD s x = (List.range (rowsN s)).flatMap (fun i => rowAt s x (rowsN s - 1 - i)) := fun x => by unfold turnD; rw [if_neg hs]
    obtain ⟨q1, q2⟩ := chosen_rows ho hs (fun i => rowsN s - 1 - i) (fun i hi => by omega)
    rw [← e d] at q1 q2
    refine ⟨q1, ?_⟩
    rw [e (turnD s d), flat_ext (g := fun i => rowAt s d i) (fun i hi => by rw [q2 _ (by omega)]; congr 1; omega)]
    exact all_rows ho hs
theorem rot_ok {t f : List Int} (x : Int) (ho : arrOk t f = true) : arrOk t (rotateD x t f) = true ∧ rotateD (0 - x) t (rotateD x t f) = f := by
  by_cases hn : t = [] ∨ t.getD 0 0 = 0
  · rw [rot_none hn, rot_none hn]; exact ⟨ho, rfl⟩
  · have hs : t ≠ [] := fun h => hn (.inl h)
    have hb := head_bd ho
    have h0 : t.getD 0 0 ≠ 0 := fun h => hn (.inr h)
    have hp : 0 < rowsN t := by unfold rowsN; omega
    have e : ∀ x f, rotateD x t f = (List.range (rowsN t)).flatMap (fun i => rowAt t f ((i + rotateBy x (rowsN t)) % rowsN t)) := fun x f => by unfold rotateD; rw [if_neg hn]
    obtain ⟨q1, q2⟩ := chosen_rows ho hs (fun i => (i + rotateBy x (rowsN t)) % rowsN t) (fun i hi => Nat.mod_lt _ hp)
    rw [← e x f] at q1 q2
    refine ⟨q1, ?_⟩
    rw [e (0 - x) (rotateD x t f), flat_ext (g := fun i => rowAt t f i) (fun i hi => by
      rw [q2 _ (Nat.mod_lt _ hp)]
      congr 1
      unfold rotateBy
      generalize rowsN t = n at *
      have a1 := Int.emod_nonneg x (b := (n : Int)) (by omega)
      have a2 := Int.emod_nonneg (0 - x) (b := (n : Int)) (by omega)
      have e1 : ((x % (n : Int)).toNat : Int) = x % (n : Int) := Int.toNat_of_nonneg a1
      have e2 : (((0 - x) % (n : Int)).toNat : Int) = (0 - x) % (n : Int) := Int.toNat_of_nonneg a2
      have key : (((((i + ((0 - x) % (n : Int)).toNat) % n + (x % (n : Int)).toNat) % n : Nat)) : Int) = (i : Int) := by
        push_cast
        rw [e1, e2]
        rw [Int.emod_add_emod, Int.add_emod_emod]
        rw [show (i : Int) + (0 - x) % (n : Int) + x = (i + x) + (0 - x) % (n : Int) by omega, Int.add_emod_emod]
        rw [show (i : Int) + x + (0 - x) = (i : Int) by omega]
        exact Int.emod_eq_of_lt (by omega) (by omega)
      omega)]
    exact all_rows ho hs
theorem flip_ok {s d : List Int} (ho : arrOk s d = true) : arrOk s.reverse (flipD s d) = true ∧ flipD s.reverse (flipD s d) = d := by
  have hz := arrOk_size ho
  have hsh := arrOk_shape ho
  have hr := size_rev hsh
  have hd : d.all ok = true := by unfold arrOk at ho; rw [Bool.and_eq_true] at ho; exact ho.2
  have hlen : (flipD s d).length = d.length := by simp [flipD]
  have hq : arrOk s.reverse (flipD s d) = true := by
    unfold arrOk
    rw [Bool.and_eq_true, hlen, hr]
    refine ⟨by simpa using hz, ?_⟩
    rw [List.all_eq_true] at hd ⊢
    intro y hy
    unfold flipD at hy
    rw [List.mem_map] at hy
    obtain ⟨i, hi, rfl⟩ := hy
    rw [List.mem_range] at hi
    obtain ⟨p0, p1, _⟩ := flip_place ho i hi
    have hlt : (placeV s (indexV s.reverse (i : Int)).reverse).toNat < d.length := by omega
    rw [List.getD_eq_getElem?_getD, List.getElem?_eq_getElem hlt]
    exact hd _ (List.getElem_mem hlt)
  refine ⟨hq, ?_⟩
  apply List.ext_getElem
  · simp [flipD]
  · intro i h1 h2
    have hi : i < (flipD s d).length := by rw [hlen]; exact h2
    obtain ⟨p0, p1, _⟩ := flip_place hq i hi
    rw [List.reverse_reverse] at p0 p1
    obtain ⟨P, hP⟩ : ∃ P : Nat, placeV s.reverse (indexV s (i : Int)).reverse = (P : Int) := ⟨(placeV s.reverse (indexV s (i : Int)).reverse).toNat, by omega⟩
    have hPl : P < d.length := by rw [hlen] at p1; omega
    have e1 : (flipD s.reverse (flipD s d))[i] = (flipD s d).getD P 0 := by
      simp only [flipD, List.getElem_map, List.getElem_range, List.reverse_reverse, hP, Int.toNat_natCast]
    have e2 : (flipD s d).getD P 0 = d.getD (placeV s (indexV s.reverse (P : Int)).reverse).toNat 0 := by
      simp [flipD, hPl]
    have e3 : indexV s.reverse (P : Int) = (indexV s (i : Int)).reverse := by
      rw [← hP]
      exact index_of_place (by omega)
    have e4 := (place_of_index (s := s) (p := (i : Int)) hsh (by omega) (by omega)).2
    rw [e1, e2, e3, List.reverse_reverse, e4, Int.toNat_natCast, List.getD_eq_getElem?_getD, List.getElem?_eq_getElem h2]
    rfl
end Go.Proofs.YtnkacfgbkfkhdaaGreat
namespace Go.Proofs.YtnkacfgbkfkhdaaGreat
open Go.RowKit Go.Shelf
set_option linter.unusedVariables false
set_option linter.unusedSimpArgs false
theorem neu_right (f : Int) : ok (neu f).1 = true := by
  unfold neu
  repeat' split
  all_goals decide
theorem vecs_row {s d t e : List Int} {nR n nC : Nat} (h : InnerD s d t e nR n nC) (ho : arrOk s d = true) :
    (vecsF s d).length = 2 * nR ∧ ∀ i, i < nR → (vecsF s d).getD (2 * i) [] = [(n : Int)] ∧ (vecsF s d).getD (2 * i + 1) [] = rowV d n i ∧ arrOk [(n : Int)] (rowV d n i) = true := by
  obtain ⟨h1, _, hd, _, _, hn, _⟩ := h
  rcases h1 with ⟨rfl, rfl⟩ | rfl
  · refine ⟨rfl, fun i hi => ?_⟩
    obtain rfl : i = 0 := by omega
    have e : rowV d n 0 = d := by unfold rowV; rw [Nat.zero_mul, List.drop_zero]; exact List.take_of_length_le (by omega)
    rw [e]
    exact ⟨rfl, rfl, ho⟩
  · have e0 : vecsF [(nR : Int), (n : Int)] d = flatR [(n : Int)] (rowsD [(nR : Int), (n : Int)] d) := rfl
    have e1 : rowsN [(nR : Int), (n : Int)] = nR := rfl
    have e2 : rowN [(nR : Int), (n : Int)] = n := by show (sizeV [(n : Int)]).toNat = n; rw [size_p1 n hn]; rfl
    rw [e0]
    refine ⟨by rw [flatR_len, rowsD_len, e1], fun i hi => ?_⟩
    have q := flatR_at [(n : Int)] (rowsD [(nR : Int), (n : Int)] d) (i := i) (by rw [rowsD_len, e1]; exact hi)
    have q2 := rowsD_at [(nR : Int), (n : Int)] d (i := i) (by rw [e1]; exact hi)
    have q3 : rowAt [(nR : Int), (n : Int)] d i = rowV d n i := by unfold rowAt rowV; rw [e2]
    have q4 := rowsD_ok ho (by simp) i (by rw [rowsD_len, e1]; exact hi)
    rw [q2, q3] at q4
    rw [q2, q3] at q
    exact ⟨q.1, q.2, q4⟩
theorem vecs_col {s d t e : List Int} {nR n nC : Nat} (h : InnerD s d t e nR n nC) (ho : arrOk t e = true) :
    (vecsF t.reverse (flipD t e)).length = 2 * nC ∧ ∀ j, j < nC → (vecsF t.reverse (flipD t e)).getD (2 * j) [] = [(n : Int)] ∧ (vecsF t.reverse (flipD t e)).getD (2 * j + 1) [] = colV e n nC j ∧ arrOk [(n : Int)] (colV e n nC j) = true := by
  have he3 := arrOk_len ho
  obtain ⟨_, h2, _, he, _, hn, hc⟩ := h
  rcases h2 with ⟨rfl, rfl⟩ | rfl
  · refine ⟨rfl, fun i hi => ?_⟩
    obtain rfl : i = 0 := by omega
    obtain ⟨q1, q2⟩ := flip_vec (e := e) hn (by omega)
    refine ⟨rfl, ?_, by rw [q2]; exact ho⟩
    show flipD [(n : Int)] e = _
    rw [q1, q2]
  · have e0 : vecsF [(n : Int), (nC : Int)].reverse (flipD [(n : Int), (nC : Int)] e) = flatR [(n : Int)] (rowsD [(nC : Int), (n : Int)] (flipD [(n : Int), (nC : Int)] e)) := rfl
    have e1 : rowsN [(nC : Int), (n : Int)] = nC := rfl
    have e2 : rowN [(nC : Int), (n : Int)] = n := by show (sizeV [(n : Int)]).toNat = n; rw [size_p1 n hn]; rfl
    rw [e0]
    refine ⟨by rw [flatR_len, rowsD_len, e1], fun i hi => ?_⟩
    have q := flatR_at [(n : Int)] (rowsD [(nC : Int), (n : Int)] (flipD [(n : Int), (nC : Int)] e)) (i := i) (by rw [rowsD_len, e1]; exact hi)
    have q2 := rowsD_at [(nC : Int), (n : Int)] (flipD [(n : Int), (nC : Int)] e) (i := i) (by rw [e1]; exact hi)
    have q3 : rowAt [(nC : Int), (n : Int)] (flipD [(n : Int), (nC : Int)] e) i = colV e n nC i := by unfold rowAt; rw [e2]; exact flip_col hn hc he (by omega) hi
    have q4 := rowsD_ok (s := [(nC : Int), (n : Int)]) (flip_ok ho).1 (by simp) i (by rw [rowsD_len, e1]; exact hi)
    rw [q2, q3] at q4
    rw [q2, q3] at q
    exact ⟨q.1, q.2, q4⟩
/-- What strung makes of the numbers. -/
theorem inner_strung {N : Nat} {c : Nat → Int × Int} (SH : List Int) : mkR (firstC (fun k => (c k).2) N) SH ((List.range N).flatMap (fun k => if (c k).2 = 0 then [(c k).1] else [])) = mkR (firstC (fun k => (c k).2) N) SH ((List.range N).map (fun k => (c k).1)) := by
  by_cases h : firstC (fun k => (c k).2) N = 0
  · rw [flat_cells h]
  · rw [mkR_bad h, mkR_bad h]
/-- A block with a list of arrays in it. -/
def One (W : World) (q : Nat) (x : Value) : Prop := W.heap[q]? = some (.cells #[x] 48 (0, 0))
namespace One
theorem keep {W W' : World} {q : Nat} {x : Value} (h : One W q x) (hb : Below W.heap.size W W') : One W' q x := by
  unfold One at *; rw [hb.block q (lt_of_heapA h)]; exact h
theorem c0 {W : World} {q : Nat} {x : Value} (h : One W q x) : W.cell? ⟨q, 0, none⟩ = some x := cell_at h rfl
theorem free {W : World} {q : Nat} {x : Value} (h : One W q x) : W.frozen? ⟨q, 0, none⟩ = false := free_at h 0
theorem lt {W : World} {q : Nat} {x : Value} (h : One W q x) : q < W.heap.size := lt_of_heapA h
theorem set {W : World} {q : Nat} {x : Value} (h : One W q x) (y : Value) : One (W.setCell ⟨q, 0, none⟩ y) q y := by
  have h1 := heap_setCell_same W q 0 _ _ y h
  simpa [One] using h1
theorem other {W : World} {q p : Nat} {x : Value} (h : One W q x) (hne : q ≠ p) (y : Value) : One (W.setCell ⟨p, 0, none⟩ y) q x := by
  unfold One; rw [heap_setCell_other _ _ _ _ (by show q ≠ p; exact hne)]; exact h
theorem new (W : World) (x : Value) : One (W.alloc (.cells #[x] 48)) W.heap.size x := heap_alloc_new W _
end One
theorem one_new2 (W : World) (O : Obj) (x : Value) : One ((W.alloc O).alloc (.cells #[x] 48)) (W.heap.size + 1) x := by
  have h := One.new (W.alloc O) x
  rw [World.size_alloc] at h
  exact h
theorem one_old2 (W : World) (O : Obj) (x : Value) : One ((W.alloc (.cells #[x] 48)).alloc O) W.heap.size x := (One.new W x).keep (bAlloc (Below.refl _ _) _)
theorem cell_other {W : World} {q : Nat} {p : Addr} {x : Value} (h : p.block ≠ q) : (W.setCell ⟨q, 0, none⟩ x).cell? p = W.cell? p := by
  simp only [World.cell?]
  rw [heap_setCell_other _ _ _ _ (by show p.block ≠ q; exact h)]
theorem one_cell {W : World} {q o : Nat} {x v : Value} (h : One W q x) (hc : W.cell? ⟨q, o, none⟩ = some v) : o = 0 ∧ v = x := by
  have h' : W.heap[q]? = some (.cells #[x] 48 (0, 0)) := h
  simp only [World.cell?, h'] at hc
  rcases o with _ | o
  · exact ⟨rfl, by simpa using hc.symm⟩
  · simp at hc
theorem ints_set {W : World} {q : Nat} {x y : Value} {a : Option Addr} {l : List Int} (hq : One W q x) (hx : ∃ a n c, x = .slice a n c) (h : Ints W a l) : Ints (W.setCell ⟨q, 0, none⟩ y) a l := by
  rcases h with h | ⟨b, off, e, hB, hc⟩
  · exact .inl h
  · by_cases hl : l.length = 0
    · exact .inl (List.eq_nil_of_length_eq_zero hl)
    refine .inr ⟨b, off, e, by rw [size_setCell]; exact hB, fun k hk => ?_⟩
    have hne : b ≠ q := fun hbq => by
      have h0 := hc k hk
      rw [hbq] at h0
      obtain ⟨a, n, c, rfl⟩ := hx
      have := (one_cell hq h0).2
      cases this
    rw [cell_other (by exact hne)]
    exact hc k hk
theorem arrs_set {W : World} {q : Nat} {x y v : Value} {F : List (List Int)} (hq : One W q x) (hx : ∃ a n c, x = .slice a n c) (h : ArrsI W v F) : ArrsI (W.setCell ⟨q, 0, none⟩ y) v F := by
  obtain ⟨a, n, c, rfl, hF, h⟩ := h
  refine ⟨a, n, c, rfl, hF, ?_⟩
  rcases h with h | ⟨o, off, xs, e, ho, hx', hj⟩
  · exact .inl h
  · by_cases hn : n = 0
    · exact .inl hn
    have hne : o ≠ q := fun hoq => by
      have h1 := (hj 1 (by omega)).1
      rw [hoq] at h1
      have := (one_cell hq h1).1
      omega
    refine .inr ⟨o, off, xs, e, by rw [size_setCell]; exact ho, hx', fun j h => ⟨?_, ?_⟩⟩
    · rw [cell_other (by exact hne)]; exact (hj j h).1
    · obtain ⟨a2, c2, e2, hle, h2⟩ := (hj j h).2
      exact ⟨a2, c2, e2, hle, ints_set hq hx h2⟩
/-- Two lists of arrays, each in a block of its own. -/
def VecsAt (W0 W : World) (g7 g8 : Nat) (x y : Value) (FX FY : List (List Int)) : Prop :=
  One W g7 x ∧ One W g8 y ∧ ArrsI W x FX ∧ ArrsI W y FY ∧ Below W0.heap.size W0 W
theorem put_two {w V : World} {q p : Nat} {x y x0 y0 : Value} {FX FY : List (List Int)} (hb : Below w.heap.size w V) (hq : w.heap.size ≤ q) (hp : w.heap.size ≤ p) (hne : q ≠ p)
    (bq : One V q x0) (bp : One V p y0) (e0 : ∃ a n c, x0 = .slice a n c) (e1 : ∃ a n c, y0 = .slice a n c) (ax : ArrsI V x FX) (ay : ArrsI V y FY) : VecsAt w ((V.setCell ⟨q, 0, none⟩ x).setCell ⟨p, 0, none⟩ y) q p x y FX FY :=
  ⟨(bq.set x).other hne y, (bp.other (fun h => hne h.symm) x).set y, arrs_set (bp.other (fun h => hne h.symm) x) e1 (arrs_set bq e0 ax), arrs_set (bp.other (fun h => hne h.symm) x) e1 (arrs_set bq e0 ay), below_setCell (below_setCell hb hq _ _) hp _ _⟩
theorem VecsAt.swap {w V : World} {q p : Nat} {x y : Value} {FX FY : List (List Int)} (h : VecsAt w V q p x y FX FY) : VecsAt w V p q y x FY FX := ⟨h.2.1, h.1, h.2.2.2.1, h.2.2.1, h.2.2.2.2⟩
theorem put_lay {w V : World} {q : Nat} {x y x0 : Value} {FX FY : List (List Int)} (hb : Below w.heap.size w V) (hq : w.heap.size ≤ q)
    (bq : One V q x0) (e0 : ∃ a n c, x0 = .slice a n c) (ax : ArrsI V x FX) (ay : ArrsI V y FY) : VecsAt w ((V.setCell ⟨q, 0, none⟩ x).alloc (.cells #[y] 48)) q V.heap.size x y FX FY := by
  have hn := One.new (V.setCell ⟨q, 0, none⟩ x) y
  rw [size_setCell] at hn
  exact ⟨(bq.set x).keep (bAlloc (Below.refl _ _) _), hn, (arrs_set bq e0 ax).keep (bAlloc (Below.refl _ _) _), (arrs_set bq e0 ay).keep (bAlloc (Below.refl _ _) _), bAlloc (below_setCell hb hq _ _) _⟩
theorem lay_two {w V : World} {x y : Value} {FX FY : List (List Int)} (hb : Below w.heap.size w V) (ax : ArrsI V x FX) (ay : ArrsI V y FY) : VecsAt w ((V.alloc (.cells #[x] 48)).alloc (.cells #[y] 48)) V.heap.size (V.heap.size + 1) x y FX FY := by
  have hn := One.new (V.alloc (.cells #[x] 48)) y
  rw [World.size_alloc] at hn
  exact ⟨(One.new V x).keep (bAlloc (Below.refl _ _) _), hn, (ax.keep (bAlloc (Below.refl _ _) _)).keep (bAlloc (Below.refl _ _) _), (ay.keep (bAlloc (Below.refl _ _) _)).keep (bAlloc (Below.refl _ _) _), bAlloc (bAlloc hb _) _⟩
end Go.Proofs.YtnkacfgbkfkhdaaGreat
namespace Go.Proofs.YtnkacfgbkfkhdaaGreat
set_option linter.unusedVariables false
theorem red_pairs {f g n : Int} {x y : List Int} (hf : sign2 f = true) (h1 : arrOk [n] x = true) (hc : (cellR f g x y n.toNat).2 = 0) :
    pairC g x y n.toNat = 0 ∧ reduceR f [n] (pairD g x y n.toNat) = (0, [], [(cellR f g x y n.toNat).1]) := by
  have h0 : pairC g x y n.toNat = 0 := by
    by_cases q : pairC g x y n.toNat = 0
    · exact q
    · unfold cellR at hc; rw [if_neg q] at hc; exact absurd hc q
  refine ⟨h0, ?_⟩
  obtain ⟨a1, a2, _, _⟩ := vecN h1
  unfold reduceR
  rw [if_pos ⟨hf, pair_arr h1 h0⟩, if_neg (by simp)]
  show (if 0 < n then _ else redN f []) = _
  by_cases hn : n = 0
  · subst hn
    rw [if_neg (by omega), redN_nil f (neu_right f), show (0 : Int).toNat = 0 from rfl, cellR_none]
  · rw [if_pos (by omega), rows_pair]
    show mkR (redL f [] (pairR g x y n.toNat)).1 [] (redL f [] (pairR g x y n.toNat)).2 = _
    by_cases q : (redL f [] (pairR g x y n.toNat)).1 = 0
    · obtain ⟨z, e1, e2⟩ := cellR_good h0 (by omega) q
      rw [q, mkR_good, e1, e2]
    · rw [cellR_bad h0 (by omega) q] at hc
      exact absurd hc q
theorem inner_good {f g : Int} {s d t e : List Int} (h : innerC f g s d t e = 0) :
    ∃ nR n nC : Nat, InnerD s d t e nR n nC ∧ (arrOk s d = true ∧ arrOk t e = true ∧ sign2 f = true ∧ sign2 g = true) ∧ nR * nC ≤ 300 ∧ sizeV (innerS s t) = ((nR * nC : Nat) : Int) ∧ (∀ k, k < nR * nC → (innerK f g d t e k).2 = 0) ∧
      innerR f g s d t e = (0, innerS s t, (List.range (nR * nC)).map (fun k => (innerK f g d t e k).1)) := by
  have hC := h
  unfold innerC at h
  by_cases ho : arrOk s d = true ∧ arrOk t e = true ∧ sign2 f = true ∧ sign2 g = true
  · rw [if_pos ho] at h
    by_cases hl : (s.length = 1 ∨ s.length = 2) ∧ (t.length = 1 ∨ t.length = 2)
    · rw [if_pos hl] at h
      by_cases hq : s.getD (s.length - 1) 0 = t.getD 0 0
      · rw [if_neg (by simpa using hq)] at h
        by_cases hz : sizeV (innerS s t) < 0
        · rw [if_pos hz] at h; cases h
        · rw [if_neg hz] at h
          obtain ⟨nR, n, nC, dim⟩ := inner_dims ho.1 ho.2.1 hl.1 hl.2 hq
          have sz := dim.size (by omega)
          have e9 : (((nR * nC : Nat) : Int)).toNat = nR * nC := rfl
          refine ⟨nR, n, nC, dim, ho, dim.count (by omega), sz, fun k hk => ?_, ?_⟩
          · rw [sz, e9] at h
            exact firstC_all h k hk
          · unfold innerR
            rw [hC, mkR_good, sz, e9]
      · rw [if_pos (by simpa using hq)] at h; cases h
    · rw [if_neg hl] at h; cases h
  · rw [if_neg ho] at h; cases h
theorem cell_right {f g : Int} {x y : List Int} {n : Nat} (hc : (cellR f g x y n).2 = 0) (hx : n ≠ 0 → pairC g x y n = 0 → ∀ z ∈ (redL f [] (pairR g x y n)).2, ok z = true) : ok (cellR f g x y n).1 = true := by
  by_cases h0 : pairC g x y n = 0
  · by_cases hn : n = 0
    · subst hn; rw [cellR_none]; exact neu_right f
    · by_cases q : (redL f [] (pairR g x y n)).1 = 0
      · obtain ⟨z, e1, e2⟩ := cellR_good h0 hn q
        rw [e2]
        exact hx hn h0 z (by rw [e1]; simp)
      · rw [cellR_bad h0 hn q]; show ok 0 = true; decide
  · unfold cellR; rw [if_neg h0]; show ok 0 = true; decide
/-- What it comes to is right. -/
theorem inner_right {f g : Int} {s d t e : List Int} (h : innerC f g s d t e = 0) : arrOk (innerR f g s d t e).2.1 (innerR f g s d t e).2.2 = true := by
  obtain ⟨nR, n, nC, dim, ho, _, sz, hk, er⟩ := inner_good h
  rw [er]
  simp only [arrOk, Bool.and_eq_true, List.all_eq_true]
  refine ⟨by rw [sz]; simp, fun z hz => ?_⟩
  simp only [List.mem_map, List.mem_range] at hz
  obtain ⟨k, hkk, rfl⟩ := hz
  have hc := hk k hkk
  rw [dim.at_] at hc ⊢
  refine cell_right hc (fun hn h0 z hz => ?_)
  have hR : pairR g (rowV d n (k / nC)) (colV e n nC (k % nC)) n ≠ [] := by intro q; have := pairR_len g (rowV d n (k / nC)) (colV e n nC (k % nC)) n; rw [q] at this; simp at this; omega
  by_cases q : (redL f [] (pairR g (rowV d n (k / nC)) (colV e n nC (k % nC)) n)).1 = 0
  · have := redL_ok hR (pair_ok h0) q
    simp only [arrOk, Bool.and_eq_true, List.all_eq_true] at this
    exact this.2 z hz
  · rw [redL_none q] at hz; simp at hz
open Go.RowKit in
/-- The cut of a list of numbers, from one on up to another, with its room. -/
theorem ints_mid9 {w : World} {a : Option Addr} {l : List Int} {c L M : Nat} (h : Ints w a l) (hc : l.length ≤ c) (hL : L ≤ M) (hM : M ≤ l.length) :
    ∃ a' c', (∀ W, (Go.Instr.slice 24 (.slice a l.length c) (some (.int .i64 (L : Int))) (some (.int .i64 (M : Int))) none).run Tryz.prog W = .ok (.slice a' (M - L) c') W) ∧ Ints w a' ((l.drop L).take (M - L)) ∧ M - L ≤ c' := by
  have hrun : ∀ W, (Go.Instr.slice 24 (.slice a l.length c) (some (.int .i64 (L : Int))) (some (.int .i64 (M : Int))) none).run Tryz.prog W = .ok (sliced a L M c 1) W := by
    intro W
    have hs : (sizeOf 3).run Tryz.prog W = .ok 1 W := by kernel_rfl
    have he : Tryz.prog.elem 24 = 3 := by kernel_rfl
    rw [run_slice_lh (P := Tryz.prog) (w := W) 24 a l.length c (by rw [he]; exact Tryz.underlying24) .i64 .i64 (L : Int) (M : Int) (by omega) (by omega) (by omega), he, hs]
    simp [Result.andThen]
  refine ⟨_, _, hrun, ?_, by omega⟩
  by_cases h0 : M - L = 0
  · exact .inl (by simp [h0])
  · obtain ⟨b, o, rfl, _, _⟩ := h.at (k := 0) (by omega)
    have q := ints_cut (m := L) (n := M - L) h (by omega)
    rw [if_neg (by omega)]
    by_cases hL0 : L = 0 <;> simpa [Addr.add, hL0] using q
theorem vec_right {n : Nat} {l : List Int} (h : arrOk [(n : Int)] l = true) : vecOk l = true ∧ l.length = n := by
  obtain ⟨_, _, e, _⟩ := vecN h
  have e2 : l.length = n := by rw [e]; rfl
  refine ⟨?_, e2⟩
  unfold vecOk
  rw [e2]
  exact h
end Go.Proofs.YtnkacfgbkfkhdaaGreat
